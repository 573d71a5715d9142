/-
  The contracts of value.readBase, readTuplet and Read.
-/
import Derived.Test.YtejiifkenanodaaGreatDoorValH
namespace Go.Proofs.YtejiifkenanodaaGreatDoor
open Go.RowKit

def RbRel (l : List UInt8) (w : World) (a : Value) (wr : World) : Prop := ∃ k : Nat, a = .int .i64 (k : Int) ∧ k ≤ 7 ∧ Hid (∀ j, j < k → (Lib.itoa (Val.bt (j : Int)) == l) = false) ∧ Below w.heap.size w wr
def rbV (k : Nat) : Value := if k < 7 then .tuple #[.int .i64 (k : Int), .bool true] else .tuple #[.int .i64 0, .bool false]

set_option maxRecDepth 100000 in
set_option maxHeartbeats 4000000 in
theorem readBase_any (s : ByteArray) (w : World) (hR : Vars w) :
    Calls Tryz.prog 35 #[.string s] w fun ed w' => ed = .returned (rbV (Val.rb s.data.toList)) ∧ Below w.heap.size w w' := by
  have hB0 : Below w.heap.size w w := Below.refl _ _
  go_enter Tryz.func35, Tryz.ntmps35
  go_wp2
  go_loopw [5] (fun a wr => RbRel s.data.toList w a wr) (fun a _ => (7 - intOf a).toNat)
  case atStart => exact ⟨0, rfl, by omega, Lib.hid (fun j hj => by omega), hB0⟩
  case round =>
    clear hB0
    obtain ⟨k, rfl, hk, HN, hB⟩ := hrel
    by_cases hp : k < 7
    · obtain ⟨T, HT⟩ : ∃ T, Hid (Lib.itoa (Val.bt (k : Int)) = T) := ⟨_, Lib.hid rfl⟩
      go_wp2_with fail
      refine (baseText_any (b := (k : Int)) (by omega) (by omega) _ (hR.below hB)).mono ?_
      rintro ed w2 ⟨rfl, hb⟩
      rw [HT.out]
      replace hB := below_two hB hb
      clear hb
      cases hE : (T == s.data.toList) with
      | true =>
        have hE2 : (T == s.toList) = true := by rw [ByteArray.toList_eq]; exact hE
        have HV : Hid (rbV (Val.rb s.data.toList) = .tuple #[.int .i64 (k : Int), .bool true]) := Lib.hid (by
          have : Val.rb s.data.toList = k := Val.fst_found hp HN.out (by simp only [HT.out]; exact hE)
          rw [this]; unfold rbV; rw [if_pos hp])
        go_wp2
        exact bodyPost_ret (v := .tuple #[.int .i64 (k : Int), .bool true]) (by simp [results, Tryz.results35, go_sem]) rfl ⟨by rw [HV.out], hB⟩
      | false =>
        have hE2 : (T == s.toList) = false := by rw [ByteArray.toList_eq]; exact hE
        have HF : Hid ((Lib.itoa (Val.bt (k : Int)) == s.data.toList) = false) := Lib.hid (by rw [HT.out]; exact hE)
        go_wp2
        go_roundw
        case rel => exact ⟨k + 1, by go_num, by omega, Lib.hid (fun j hj => by by_cases e : j = k; (rw [e]; exact HF.out); exact HN.out j (by omega)), hB⟩
        case measure => simp [intOf]; omega
    · obtain rfl : k = 7 := by omega
      have HV : Hid (rbV (Val.rb s.data.toList) = .tuple #[.int .i64 0, .bool false]) := Lib.hid (by
        have : Val.rb s.data.toList = 7 := Val.fst_none HN.out
        rw [this]; rfl)
      go_wp2
      exact bodyPost_ret (v := .tuple #[.int .i64 0, .bool false]) (by simp [results, Tryz.results35, go_sem]) rfl ⟨by rw [HV.out], hB⟩

set_option maxRecDepth 100000 in
set_option maxHeartbeats 4000000 in
theorem readTuplet_oo (s : ByteArray) (w : World) (hR : Vars w) (hs : s.size ≤ 1000) (f b : List UInt8) (t : Bool) (hf : f.length ≤ 1000) (hb : b.length ≤ 1000) (HC : Hid (Lib.cut s.data.toList [58] = (f, b, t))) (n e : Int) (hx : Lib.atoiAll f = .ok n) (hy : Lib.atoiAll b = .ok e) :
    Calls Tryz.prog 36 #[.string s] w fun ed w' => ed = .returned (.tuple #[.int .i64 n, .int .i64 e]) ∧ Below w.heap.size w w' := by
  have hB0 : Below w.heap.size w w := Below.refl _ _
  go_enter Tryz.func36, Tryz.ntmps36
  go_wp2_with fail
  have hR' := hR.below hB0
  refine (cut_call s 58 rfl HC.out _ hs hR'.lib).mono ?_
  rintro e w1 ⟨rfl, hb1⟩
  clear hR'
  have hs1 := hb1
  have hB1 := below_two hB0 hs1
  clear hB0 hs1
  go_wp2_with fail
  have hR' := hR.below hB1
  refine (atoi_ok _ (by rw [sz]; omega) _ hx _).mono ?_
  rintro e w2 ⟨rfl, hb2⟩
  clear hR'
  have hs2 := hb2
  have hB2 := below_two hB1 hs2
  clear hB1 hs2
  go_wp2_with fail
  have hR' := hR.below hB2
  refine (atoi_ok _ (by rw [sz]; omega) _ hy _).mono ?_
  rintro e w3 ⟨rfl, hb3⟩
  clear hR'
  have hs3 := hb3
  have hB3 := below_two hB2 hs3
  clear hB2 hs3
  go_wp2
  go_ret2
  exact ⟨rfl, hB3⟩

set_option maxRecDepth 100000 in
set_option maxHeartbeats 4000000 in
theorem readTuplet_ob (s : ByteArray) (w : World) (hR : Vars w) (hs : s.size ≤ 1000) (f b : List UInt8) (t : Bool) (hf : f.length ≤ 1000) (hb : b.length ≤ 1000) (HC : Hid (Lib.cut s.data.toList [58] = (f, b, t))) (n : Int) (hx : Lib.atoiAll f = .ok n) (hy : ∀ v, Lib.atoiAll b ≠ .ok v) :
    Calls Tryz.prog 36 #[.string s] w fun ed w' => ed = .returned (.tuple #[.int .i64 0, .int .i64 0]) ∧ Below w.heap.size w w' := by
  have hB0 : Below w.heap.size w w := Below.refl _ _
  go_enter Tryz.func36, Tryz.ntmps36
  go_wp2_with fail
  have hR' := hR.below hB0
  refine (cut_call s 58 rfl HC.out _ hs hR'.lib).mono ?_
  rintro e w1 ⟨rfl, hb1⟩
  clear hR'
  have hs1 := hb1
  have hB1 := below_two hB0 hs1
  clear hB0 hs1
  go_wp2_with fail
  have hR' := hR.below hB1
  refine (atoi_ok _ (by rw [sz]; omega) _ hx _).mono ?_
  rintro e w2 ⟨rfl, hb2⟩
  clear hR'
  have hs2 := hb2
  have hB2 := below_two hB1 hs2
  clear hB1 hs2
  go_wp2_with fail
  have hR' := hR.below hB2
  refine (atoi_bad _ (by rw [sz]; omega) hy _ hR'.lib).mono ?_
  rintro e w3 ⟨v2, N2, rfl, hb3⟩
  clear hR'
  have hs3 := hb3
  have hB3 := below_two hB2 hs3
  clear hB2 hs3
  go_wp2
  go_ret2
  exact ⟨rfl, hB3⟩

set_option maxRecDepth 100000 in
set_option maxHeartbeats 4000000 in
theorem readTuplet_bo (s : ByteArray) (w : World) (hR : Vars w) (hs : s.size ≤ 1000) (f b : List UInt8) (t : Bool) (hf : f.length ≤ 1000) (hb : b.length ≤ 1000) (HC : Hid (Lib.cut s.data.toList [58] = (f, b, t))) (e : Int) (hx : ∀ v, Lib.atoiAll f ≠ .ok v) (hy : Lib.atoiAll b = .ok e) :
    Calls Tryz.prog 36 #[.string s] w fun ed w' => ed = .returned (.tuple #[.int .i64 0, .int .i64 0]) ∧ Below w.heap.size w w' := by
  have hB0 : Below w.heap.size w w := Below.refl _ _
  go_enter Tryz.func36, Tryz.ntmps36
  go_wp2_with fail
  have hR' := hR.below hB0
  refine (cut_call s 58 rfl HC.out _ hs hR'.lib).mono ?_
  rintro e w1 ⟨rfl, hb1⟩
  clear hR'
  have hs1 := hb1
  have hB1 := below_two hB0 hs1
  clear hB0 hs1
  go_wp2_with fail
  have hR' := hR.below hB1
  refine (atoi_bad _ (by rw [sz]; omega) hx _ hR'.lib).mono ?_
  rintro e w2 ⟨v1, N1, rfl, hb2⟩
  clear hR'
  have hs2 := hb2
  have hB2 := below_two hB1 hs2
  clear hB1 hs2
  go_wp2_with fail
  have hR' := hR.below hB2
  refine (atoi_ok _ (by rw [sz]; omega) _ hy _).mono ?_
  rintro e w3 ⟨rfl, hb3⟩
  clear hR'
  have hs3 := hb3
  have hB3 := below_two hB2 hs3
  clear hB2 hs3
  go_wp2
  go_ret2
  exact ⟨rfl, hB3⟩

set_option maxRecDepth 100000 in
set_option maxHeartbeats 4000000 in
theorem readTuplet_bb (s : ByteArray) (w : World) (hR : Vars w) (hs : s.size ≤ 1000) (f b : List UInt8) (t : Bool) (hf : f.length ≤ 1000) (hb : b.length ≤ 1000) (HC : Hid (Lib.cut s.data.toList [58] = (f, b, t))) (hx : ∀ v, Lib.atoiAll f ≠ .ok v) (hy : ∀ v, Lib.atoiAll b ≠ .ok v) :
    Calls Tryz.prog 36 #[.string s] w fun ed w' => ed = .returned (.tuple #[.int .i64 0, .int .i64 0]) ∧ Below w.heap.size w w' := by
  have hB0 : Below w.heap.size w w := Below.refl _ _
  go_enter Tryz.func36, Tryz.ntmps36
  go_wp2_with fail
  have hR' := hR.below hB0
  refine (cut_call s 58 rfl HC.out _ hs hR'.lib).mono ?_
  rintro e w1 ⟨rfl, hb1⟩
  clear hR'
  have hs1 := hb1
  have hB1 := below_two hB0 hs1
  clear hB0 hs1
  go_wp2_with fail
  have hR' := hR.below hB1
  refine (atoi_bad _ (by rw [sz]; omega) hx _ hR'.lib).mono ?_
  rintro e w2 ⟨v1, N1, rfl, hb2⟩
  clear hR'
  have hs2 := hb2
  have hB2 := below_two hB1 hs2
  clear hB1 hs2
  go_wp2_with fail
  have hR' := hR.below hB2
  refine (atoi_bad _ (by rw [sz]; omega) hy _ hR'.lib).mono ?_
  rintro e w3 ⟨v2, N2, rfl, hb3⟩
  clear hR'
  have hs3 := hb3
  have hB3 := below_two hB2 hs3
  clear hB2 hs3
  go_wp2
  go_ret2
  exact ⟨rfl, hB3⟩

theorem readTuplet_any (s : ByteArray) (w : World) (hR : Vars w) (hs : s.size ≤ 1000) :
    Calls Tryz.prog 36 #[.string s] w fun ed w' => ed = .returned (.tuple #[.int .i64 (Val.rtu s.data.toList).1, .int .i64 (Val.rtu s.data.toList).2]) ∧ Below w.heap.size w w' := by
  have hl : s.data.toList.length ≤ 1000 := by rw [← Lib.size_eq]; exact hs
  have hc := Val.cut_short 58 s.data.toList
  unfold Val.rtu
  obtain ⟨f, b, t, he⟩ : ∃ f b t, Lib.cut s.data.toList [58] = (f, b, t) := ⟨_, _, _, rfl⟩
  rw [he] at hc ⊢
  simp only at hc ⊢
  by_cases hx : ∃ v, Lib.atoiAll f = .ok v
  · obtain ⟨n, hx⟩ := hx
    by_cases hy : ∃ v, Lib.atoiAll b = .ok v
    · obtain ⟨e, hy⟩ := hy
      rw [hx, hy]
      exact readTuplet_oo s w hR hs f b t (by omega) (by omega) (Lib.hid he) n e hx hy
    · have hy' : ∀ v, Lib.atoiAll b ≠ .ok v := fun v h => hy ⟨v, h⟩
      have : Val.two (Lib.atoiAll f) (Lib.atoiAll b) = (0, 0) := by
        rw [hx]; unfold Val.two; cases hb : Lib.atoiAll b
        · exact absurd hb (hy' _)
        all_goals rfl
      rw [this]
      exact readTuplet_ob s w hR hs f b t (by omega) (by omega) (Lib.hid he) n hx hy'
  · have hx' : ∀ v, Lib.atoiAll f ≠ .ok v := fun v h => hx ⟨v, h⟩
    have : Val.two (Lib.atoiAll f) (Lib.atoiAll b) = (0, 0) := by
      unfold Val.two; cases hf : Lib.atoiAll f
      · exact absurd hf (hx' _)
      all_goals rfl
    rw [this]
    by_cases hy : ∃ v, Lib.atoiAll b = .ok v
    · obtain ⟨e, hy⟩ := hy
      exact readTuplet_bo s w hR hs f b t (by omega) (by omega) (Lib.hid he) e hx' hy
    · exact readTuplet_bb s w hR hs f b t (by omega) (by omega) (Lib.hid he) hx' (fun v h => hy ⟨v, h⟩)

def rdV (o : Option (Int × Int × Int × Int)) : Value := match o with | some (b, d, n, e) => .tuple #[vl b d n e, .int .i64 0] | none => .tuple #[vl 0 0 0 0, .int .i64 12]

set_option maxRecDepth 100000 in
set_option maxHeartbeats 4000000 in
theorem vread_no (s : ByteArray) (w : World) (hR : Vars w) (hs : s.size ≤ 1000) (f b g : List UInt8) (t : Bool) (hf : f.length ≤ 1000) (HC : Hid (Lib.cut s.data.toList [42] = (f, b, t))) (HG : Hid (Lib.trimRightB f 46 = g)) (hk : ¬ Val.rb g < 7) :
    Calls Tryz.prog 12 #[.string s] w fun ed w' => ed = .returned (.tuple #[vl 0 0 0 0, .int .i64 12]) ∧ Below w.heap.size w w' := by
  have HV : Hid (rbV (Val.rb g) = .tuple #[.int .i64 0, .bool false]) := Lib.hid (by unfold rbV; rw [if_neg hk])
  have hB0 : Below w.heap.size w w := Below.refl _ _
  go_enter Tryz.func12, Tryz.ntmps12
  go_wp2_with fail
  have hR' := hR.below (hB0.alloc hB0.size (.cells #[.int .i64 0, .int .i64 0, .int .i64 0, .int .i64 0] 23))
  refine (cut_call s 42 rfl HC.out _ hs hR'.lib).mono ?_
  rintro e w1 ⟨rfl, hb1⟩
  clear hR'
  have hs1 : Below w.heap.size w w1 := Below.trans (by repeat (first | exact Below.refl _ _ | refine Below.alloc ?_ (by simp <;> omega) _)) (hb1.mono (by simp <;> omega))
  have c_r_0 : w1.cell? ⟨w.heap.size, 0, none⟩ = some (.int .i64 0) := (hb1.cell (by simp <;> omega)).trans (by go_simp)
  have f_r_0 : w1.frozen? ⟨w.heap.size, 0, none⟩ = false := (hb1.frozen (by simp <;> omega)).trans (by go_simp)
  have c_r_1 : w1.cell? ⟨w.heap.size, 1, none⟩ = some (.int .i64 0) := (hb1.cell (by simp <;> omega)).trans (by go_simp)
  have f_r_1 : w1.frozen? ⟨w.heap.size, 1, none⟩ = false := (hb1.frozen (by simp <;> omega)).trans (by go_simp)
  have c_r_2 : w1.cell? ⟨w.heap.size, 2, none⟩ = some (.int .i64 0) := (hb1.cell (by simp <;> omega)).trans (by go_simp)
  have f_r_2 : w1.frozen? ⟨w.heap.size, 2, none⟩ = false := (hb1.frozen (by simp <;> omega)).trans (by go_simp)
  have c_r_3 : w1.cell? ⟨w.heap.size, 3, none⟩ = some (.int .i64 0) := (hb1.cell (by simp <;> omega)).trans (by go_simp)
  have f_r_3 : w1.frozen? ⟨w.heap.size, 3, none⟩ = false := (hb1.frozen (by simp <;> omega)).trans (by go_simp)
  have z_r := World.block_lt_of_cell? _ _ c_r_0
  have hB1 := below_two hB0 hs1
  clear hB0 hs1 hb1
  go_wp2_with fail
  have hR' := hR.below hB1
  refine (trim_call _ (l := f) (by simp) HG.out _ (by rw [sz]; omega)).mono ?_
  rintro e w2 ⟨rfl, hb2⟩
  clear hR'
  have hs2 := hb2
  replace f_r_0 := frozen_later hs2 c_r_0 f_r_0
  replace c_r_0 := cell_later hs2 c_r_0
  replace f_r_1 := frozen_later hs2 c_r_1 f_r_1
  replace c_r_1 := cell_later hs2 c_r_1
  replace f_r_2 := frozen_later hs2 c_r_2 f_r_2
  replace c_r_2 := cell_later hs2 c_r_2
  replace f_r_3 := frozen_later hs2 c_r_3 f_r_3
  replace c_r_3 := cell_later hs2 c_r_3
  clear z_r
  have z_r := World.block_lt_of_cell? _ _ c_r_0
  have hB2 := below_two hB1 hs2
  clear hB1 hs2
  go_wp2_with fail
  have hR' := hR.below hB2
  refine (readBase_any _ _ hR').mono ?_
  rintro e w3 ⟨rfl, hb3⟩
  clear hR'
  have hs3 := hb3
  replace f_r_0 := frozen_later hs3 c_r_0 f_r_0
  replace c_r_0 := cell_later hs3 c_r_0
  replace f_r_1 := frozen_later hs3 c_r_1 f_r_1
  replace c_r_1 := cell_later hs3 c_r_1
  replace f_r_2 := frozen_later hs3 c_r_2 f_r_2
  replace c_r_2 := cell_later hs3 c_r_2
  replace f_r_3 := frozen_later hs3 c_r_3 f_r_3
  replace c_r_3 := cell_later hs3 c_r_3
  clear z_r
  have z_r := World.block_lt_of_cell? _ _ c_r_0
  have hB3 := below_two hB2 hs3
  clear hB2 hs3
  rw [show (ByteArray.mk g.toArray).data.toList = g by simp, HV.out]
  obtain ⟨m0, m1, m2, m3⟩ := put4_of (x := .int .i64 0) (y := .int .i64 0) (z := .int .i64 0) (u := .int .i64 0) c_r_0 c_r_1 c_r_2 c_r_3
  go_wp2
  exact bodyPost_ret (v := .tuple #[vl (0) (0) (0) (0), .int .i64 12]) (by simp [results, Tryz.results12, go_sem, m0, m1, m2, m3]) rfl ⟨rfl, put4_below hB3 (by omega)⟩

set_option maxRecDepth 100000 in
set_option maxHeartbeats 4000000 in
theorem vread_bad (s : ByteArray) (w : World) (hR : Vars w) (hs : s.size ≤ 1000) (f b g : List UInt8) (t : Bool) (hf : f.length ≤ 1000) (hb : b.length ≤ 1000) (HC : Hid (Lib.cut s.data.toList [42] = (f, b, t))) (HG : Hid (Lib.trimRightB f 46 = g)) (k : Nat) (d n e : Int) (HK : Hid (Val.rb g = k)) (hk : k < 7) (hd : IntKind.i64.wrap ((f.length : Int) - (g.length : Int)) = d) (HT : Hid (Val.rtu b = (n, e))) (T : List UInt8) (HX : Hid (Val.txtE (k : Int) d n e = T ∧ Val.lenE (k : Int) d n e = 40))  :
    Calls Tryz.prog 12 #[.string s] w fun ed w' => ed = .returned (.tuple #[vl 0 0 0 0, .int .i64 12]) ∧ Below w.heap.size w w' := by
  have HV : Hid (rbV (Val.rb g) = .tuple #[.int .i64 (k : Int), .bool true]) := Lib.hid (by rw [HK.out]; unfold rbV; rw [if_pos hk])
  have hB0 : Below w.heap.size w w := Below.refl _ _
  go_enter Tryz.func12, Tryz.ntmps12
  go_wp2_with fail
  have hR' := hR.below (hB0.alloc hB0.size (.cells #[.int .i64 0, .int .i64 0, .int .i64 0, .int .i64 0] 23))
  refine (cut_call s 42 rfl HC.out _ hs hR'.lib).mono ?_
  rintro e w1 ⟨rfl, hb1⟩
  clear hR'
  have hs1 : Below w.heap.size w w1 := Below.trans (by repeat (first | exact Below.refl _ _ | refine Below.alloc ?_ (by simp <;> omega) _)) (hb1.mono (by simp <;> omega))
  have c_r_0 : w1.cell? ⟨w.heap.size, 0, none⟩ = some (.int .i64 0) := (hb1.cell (by simp <;> omega)).trans (by go_simp)
  have f_r_0 : w1.frozen? ⟨w.heap.size, 0, none⟩ = false := (hb1.frozen (by simp <;> omega)).trans (by go_simp)
  have c_r_1 : w1.cell? ⟨w.heap.size, 1, none⟩ = some (.int .i64 0) := (hb1.cell (by simp <;> omega)).trans (by go_simp)
  have f_r_1 : w1.frozen? ⟨w.heap.size, 1, none⟩ = false := (hb1.frozen (by simp <;> omega)).trans (by go_simp)
  have c_r_2 : w1.cell? ⟨w.heap.size, 2, none⟩ = some (.int .i64 0) := (hb1.cell (by simp <;> omega)).trans (by go_simp)
  have f_r_2 : w1.frozen? ⟨w.heap.size, 2, none⟩ = false := (hb1.frozen (by simp <;> omega)).trans (by go_simp)
  have c_r_3 : w1.cell? ⟨w.heap.size, 3, none⟩ = some (.int .i64 0) := (hb1.cell (by simp <;> omega)).trans (by go_simp)
  have f_r_3 : w1.frozen? ⟨w.heap.size, 3, none⟩ = false := (hb1.frozen (by simp <;> omega)).trans (by go_simp)
  have z_r := World.block_lt_of_cell? _ _ c_r_0
  have hB1 := below_two hB0 hs1
  clear hB0 hs1 hb1
  go_wp2_with fail
  have hR' := hR.below hB1
  refine (trim_call _ (l := f) (by simp) HG.out _ (by rw [sz]; omega)).mono ?_
  rintro e w2 ⟨rfl, hb2⟩
  clear hR'
  have hs2 := hb2
  replace f_r_0 := frozen_later hs2 c_r_0 f_r_0
  replace c_r_0 := cell_later hs2 c_r_0
  replace f_r_1 := frozen_later hs2 c_r_1 f_r_1
  replace c_r_1 := cell_later hs2 c_r_1
  replace f_r_2 := frozen_later hs2 c_r_2 f_r_2
  replace c_r_2 := cell_later hs2 c_r_2
  replace f_r_3 := frozen_later hs2 c_r_3 f_r_3
  replace c_r_3 := cell_later hs2 c_r_3
  clear z_r
  have z_r := World.block_lt_of_cell? _ _ c_r_0
  have hB2 := below_two hB1 hs2
  clear hB1 hs2
  go_wp2_with fail
  have hR' := hR.below hB2
  refine (readBase_any _ _ hR').mono ?_
  rintro e w3 ⟨rfl, hb3⟩
  clear hR'
  have hs3 := hb3
  replace f_r_0 := frozen_later hs3 c_r_0 f_r_0
  replace c_r_0 := cell_later hs3 c_r_0
  replace f_r_1 := frozen_later hs3 c_r_1 f_r_1
  replace c_r_1 := cell_later hs3 c_r_1
  replace f_r_2 := frozen_later hs3 c_r_2 f_r_2
  replace c_r_2 := cell_later hs3 c_r_2
  replace f_r_3 := frozen_later hs3 c_r_3 f_r_3
  replace c_r_3 := cell_later hs3 c_r_3
  clear z_r
  have z_r := World.block_lt_of_cell? _ _ c_r_0
  have hB3 := below_two hB2 hs3
  clear hB2 hs3
  rw [show (ByteArray.mk g.toArray).data.toList = g by simp, HV.out]
  go_wp2_with fail
  have hR' := hR.below (hB3.alloc hB3.size (.cells #[.int .i64 ((k : Int)), .int .i64 d, .int .i64 0, .int .i64 0] 23))
  refine (readTuplet_any _ _ hR' (by rw [sz]; omega)).mono ?_
  rintro e w4 ⟨rfl, hb4⟩
  clear hR'
  have y4_r := z_r
  have hs4 : Below w3.heap.size w3 w4 := Below.trans (by repeat (first | exact Below.refl _ _ | refine Below.alloc ?_ (by simp <;> omega) _)) (hb4.mono (by simp <;> omega))
  replace f_r_0 := frozen_later hs4 c_r_0 f_r_0
  replace c_r_0 := cell_later hs4 c_r_0
  replace f_r_1 := frozen_later hs4 c_r_1 f_r_1
  replace c_r_1 := cell_later hs4 c_r_1
  replace f_r_2 := frozen_later hs4 c_r_2 f_r_2
  replace c_r_2 := cell_later hs4 c_r_2
  replace f_r_3 := frozen_later hs4 c_r_3 f_r_3
  replace c_r_3 := cell_later hs4 c_r_3
  have c_v_0 : w4.cell? ⟨w3.heap.size, 0, none⟩ = some (.int .i64 ((k : Int))) := (hb4.cell (by simp <;> omega)).trans (by go_simp)
  have f_v_0 : w4.frozen? ⟨w3.heap.size, 0, none⟩ = false := (hb4.frozen (by simp <;> omega)).trans (by go_simp)
  have c_v_1 : w4.cell? ⟨w3.heap.size, 1, none⟩ = some (.int .i64 d) := (hb4.cell (by simp <;> omega)).trans (by go_simp)
  have f_v_1 : w4.frozen? ⟨w3.heap.size, 1, none⟩ = false := (hb4.frozen (by simp <;> omega)).trans (by go_simp)
  have c_v_2 : w4.cell? ⟨w3.heap.size, 2, none⟩ = some (.int .i64 0) := (hb4.cell (by simp <;> omega)).trans (by go_simp)
  have f_v_2 : w4.frozen? ⟨w3.heap.size, 2, none⟩ = false := (hb4.frozen (by simp <;> omega)).trans (by go_simp)
  have c_v_3 : w4.cell? ⟨w3.heap.size, 3, none⟩ = some (.int .i64 0) := (hb4.cell (by simp <;> omega)).trans (by go_simp)
  have f_v_3 : w4.frozen? ⟨w3.heap.size, 3, none⟩ = false := (hb4.frozen (by simp <;> omega)).trans (by go_simp)
  clear z_r
  have z_r := World.block_lt_of_cell? _ _ c_r_0
  have z_v := World.block_lt_of_cell? _ _ c_v_0
  have hB4 := below_two hB3 hs4
  clear hB3 hs4 hb4
  rw [show (ByteArray.mk b.toArray).data.toList = b by simp, HT.out]
  go_wp2_with fail
  have n_r_0 : ((w4.setCell ⟨w3.heap.size, 2, none⟩ (.int .i64 n)).setCell ⟨w3.heap.size, 3, none⟩ (.int .i64 e)).cell? ⟨w.heap.size, 0, none⟩ = some (.int .i64 0) := set_far (by omega) (set_far (by omega) c_r_0)
  have p_r_0 : ((w4.setCell ⟨w3.heap.size, 2, none⟩ (.int .i64 n)).setCell ⟨w3.heap.size, 3, none⟩ (.int .i64 e)).frozen? ⟨w.heap.size, 0, none⟩ = false := set_frozen (set_frozen f_r_0)
  have n_r_1 : ((w4.setCell ⟨w3.heap.size, 2, none⟩ (.int .i64 n)).setCell ⟨w3.heap.size, 3, none⟩ (.int .i64 e)).cell? ⟨w.heap.size, 1, none⟩ = some (.int .i64 0) := set_far (by omega) (set_far (by omega) c_r_1)
  have p_r_1 : ((w4.setCell ⟨w3.heap.size, 2, none⟩ (.int .i64 n)).setCell ⟨w3.heap.size, 3, none⟩ (.int .i64 e)).frozen? ⟨w.heap.size, 1, none⟩ = false := set_frozen (set_frozen f_r_1)
  have n_r_2 : ((w4.setCell ⟨w3.heap.size, 2, none⟩ (.int .i64 n)).setCell ⟨w3.heap.size, 3, none⟩ (.int .i64 e)).cell? ⟨w.heap.size, 2, none⟩ = some (.int .i64 0) := set_far (by omega) (set_far (by omega) c_r_2)
  have p_r_2 : ((w4.setCell ⟨w3.heap.size, 2, none⟩ (.int .i64 n)).setCell ⟨w3.heap.size, 3, none⟩ (.int .i64 e)).frozen? ⟨w.heap.size, 2, none⟩ = false := set_frozen (set_frozen f_r_2)
  have n_r_3 : ((w4.setCell ⟨w3.heap.size, 2, none⟩ (.int .i64 n)).setCell ⟨w3.heap.size, 3, none⟩ (.int .i64 e)).cell? ⟨w.heap.size, 3, none⟩ = some (.int .i64 0) := set_far (by omega) (set_far (by omega) c_r_3)
  have p_r_3 : ((w4.setCell ⟨w3.heap.size, 2, none⟩ (.int .i64 n)).setCell ⟨w3.heap.size, 3, none⟩ (.int .i64 e)).frozen? ⟨w.heap.size, 3, none⟩ = false := set_frozen (set_frozen f_r_3)
  have n_v_0 : ((w4.setCell ⟨w3.heap.size, 2, none⟩ (.int .i64 n)).setCell ⟨w3.heap.size, 3, none⟩ (.int .i64 e)).cell? ⟨w3.heap.size, 0, none⟩ = some (.int .i64 (k : Int)) := set_beside (by decide) (set_beside (by decide) c_v_0)
  have n_v_1 : ((w4.setCell ⟨w3.heap.size, 2, none⟩ (.int .i64 n)).setCell ⟨w3.heap.size, 3, none⟩ (.int .i64 e)).cell? ⟨w3.heap.size, 1, none⟩ = some (.int .i64 d) := set_beside (by decide) (set_beside (by decide) c_v_1)
  have n_v_2 : ((w4.setCell ⟨w3.heap.size, 2, none⟩ (.int .i64 n)).setCell ⟨w3.heap.size, 3, none⟩ (.int .i64 e)).cell? ⟨w3.heap.size, 2, none⟩ = some (.int .i64 n) := set_beside (by decide) (set_same (held_of c_v_2))
  have n_v_3 : ((w4.setCell ⟨w3.heap.size, 2, none⟩ (.int .i64 n)).setCell ⟨w3.heap.size, 3, none⟩ (.int .i64 e)).cell? ⟨w3.heap.size, 3, none⟩ = some (.int .i64 e) := set_same (set_held (held_of c_v_3))
  have hB5 : Below w.heap.size w ((w4.setCell ⟨w3.heap.size, 2, none⟩ (.int .i64 n)).setCell ⟨w3.heap.size, 3, none⟩ (.int .i64 e)) := set1_below (set1_below hB4 (by omega)) (by omega)
  clear c_r_0 c_r_1 c_r_2 c_r_3 f_r_0 f_r_1 f_r_2 f_r_3 c_v_0 c_v_1 c_v_2 c_v_3 f_v_0 f_v_1 f_v_2 f_v_3 z_v z_r hB4
  generalize ((w4.setCell ⟨w3.heap.size, 2, none⟩ (.int .i64 n)).setCell ⟨w3.heap.size, 3, none⟩ (.int .i64 e)) = w5 at *
  have c_r_0 := n_r_0
  have f_r_0 := p_r_0
  have c_v_0 := n_v_0
  clear n_r_0 p_r_0 n_v_0
  have c_r_1 := n_r_1
  have f_r_1 := p_r_1
  have c_v_1 := n_v_1
  clear n_r_1 p_r_1 n_v_1
  have c_r_2 := n_r_2
  have f_r_2 := p_r_2
  have c_v_2 := n_v_2
  clear n_r_2 p_r_2 n_v_2
  have c_r_3 := n_r_3
  have f_r_3 := p_r_3
  have c_v_3 := n_v_3
  clear n_r_3 p_r_3 n_v_3
  have z_r := World.block_lt_of_cell? _ _ c_r_0
  have z_v := World.block_lt_of_cell? _ _ c_v_0
  have hR' := hR.below hB5
  refine (vtext_any _ _ _ _ _ hR').mono ?_
  rintro e w6 ⟨rfl, hb6⟩
  clear hR'
  have hs6 := hb6
  replace f_r_0 := frozen_later hs6 c_r_0 f_r_0
  replace c_r_0 := cell_later hs6 c_r_0
  replace f_r_1 := frozen_later hs6 c_r_1 f_r_1
  replace c_r_1 := cell_later hs6 c_r_1
  replace f_r_2 := frozen_later hs6 c_r_2 f_r_2
  replace c_r_2 := cell_later hs6 c_r_2
  replace f_r_3 := frozen_later hs6 c_r_3 f_r_3
  replace c_r_3 := cell_later hs6 c_r_3
  replace c_v_0 := cell_later hs6 c_v_0
  replace c_v_1 := cell_later hs6 c_v_1
  replace c_v_2 := cell_later hs6 c_v_2
  replace c_v_3 := cell_later hs6 c_v_3
  clear z_r
  have z_r := World.block_lt_of_cell? _ _ c_r_0
  clear z_v
  have z_v := World.block_lt_of_cell? _ _ c_v_0
  have hB6 := below_two hB5 hs6
  clear hB5 hs6
  rw [HX.out.1, HX.out.2]
  obtain ⟨m0, m1, m2, m3⟩ := put4_of (x := .int .i64 0) (y := .int .i64 0) (z := .int .i64 0) (u := .int .i64 0) c_r_0 c_r_1 c_r_2 c_r_3
  go_wp2
  exact bodyPost_ret (v := .tuple #[vl (0) (0) (0) (0), .int .i64 12]) (by simp [results, Tryz.results12, go_sem, m0, m1, m2, m3]) rfl ⟨rfl, put4_below hB6 (by omega)⟩

set_option maxRecDepth 100000 in
set_option maxHeartbeats 4000000 in
theorem vread_other (s : ByteArray) (w : World) (hR : Vars w) (hs : s.size ≤ 1000) (f b g : List UInt8) (t : Bool) (hf : f.length ≤ 1000) (hb : b.length ≤ 1000) (HC : Hid (Lib.cut s.data.toList [42] = (f, b, t))) (HG : Hid (Lib.trimRightB f 46 = g)) (k : Nat) (d n e : Int) (HK : Hid (Val.rb g = k)) (hk : k < 7) (hd : IntKind.i64.wrap ((f.length : Int) - (g.length : Int)) = d) (HT : Hid (Val.rtu b = (n, e))) (T : List UInt8) (HX : Hid (Val.txtE (k : Int) d n e = T ∧ Val.lenE (k : Int) d n e = 0)) (hl : (T == s.data.toList) = false) :
    Calls Tryz.prog 12 #[.string s] w fun ed w' => ed = .returned (.tuple #[vl 0 0 0 0, .int .i64 12]) ∧ Below w.heap.size w w' := by
  have HV : Hid (rbV (Val.rb g) = .tuple #[.int .i64 (k : Int), .bool true]) := Lib.hid (by rw [HK.out]; unfold rbV; rw [if_pos hk])
  have hl2 : (T == s.toList) = false := by rw [ByteArray.toList_eq]; exact hl
  have hB0 : Below w.heap.size w w := Below.refl _ _
  go_enter Tryz.func12, Tryz.ntmps12
  go_wp2_with fail
  have hR' := hR.below (hB0.alloc hB0.size (.cells #[.int .i64 0, .int .i64 0, .int .i64 0, .int .i64 0] 23))
  refine (cut_call s 42 rfl HC.out _ hs hR'.lib).mono ?_
  rintro e w1 ⟨rfl, hb1⟩
  clear hR'
  have hs1 : Below w.heap.size w w1 := Below.trans (by repeat (first | exact Below.refl _ _ | refine Below.alloc ?_ (by simp <;> omega) _)) (hb1.mono (by simp <;> omega))
  have c_r_0 : w1.cell? ⟨w.heap.size, 0, none⟩ = some (.int .i64 0) := (hb1.cell (by simp <;> omega)).trans (by go_simp)
  have f_r_0 : w1.frozen? ⟨w.heap.size, 0, none⟩ = false := (hb1.frozen (by simp <;> omega)).trans (by go_simp)
  have c_r_1 : w1.cell? ⟨w.heap.size, 1, none⟩ = some (.int .i64 0) := (hb1.cell (by simp <;> omega)).trans (by go_simp)
  have f_r_1 : w1.frozen? ⟨w.heap.size, 1, none⟩ = false := (hb1.frozen (by simp <;> omega)).trans (by go_simp)
  have c_r_2 : w1.cell? ⟨w.heap.size, 2, none⟩ = some (.int .i64 0) := (hb1.cell (by simp <;> omega)).trans (by go_simp)
  have f_r_2 : w1.frozen? ⟨w.heap.size, 2, none⟩ = false := (hb1.frozen (by simp <;> omega)).trans (by go_simp)
  have c_r_3 : w1.cell? ⟨w.heap.size, 3, none⟩ = some (.int .i64 0) := (hb1.cell (by simp <;> omega)).trans (by go_simp)
  have f_r_3 : w1.frozen? ⟨w.heap.size, 3, none⟩ = false := (hb1.frozen (by simp <;> omega)).trans (by go_simp)
  have z_r := World.block_lt_of_cell? _ _ c_r_0
  have hB1 := below_two hB0 hs1
  clear hB0 hs1 hb1
  go_wp2_with fail
  have hR' := hR.below hB1
  refine (trim_call _ (l := f) (by simp) HG.out _ (by rw [sz]; omega)).mono ?_
  rintro e w2 ⟨rfl, hb2⟩
  clear hR'
  have hs2 := hb2
  replace f_r_0 := frozen_later hs2 c_r_0 f_r_0
  replace c_r_0 := cell_later hs2 c_r_0
  replace f_r_1 := frozen_later hs2 c_r_1 f_r_1
  replace c_r_1 := cell_later hs2 c_r_1
  replace f_r_2 := frozen_later hs2 c_r_2 f_r_2
  replace c_r_2 := cell_later hs2 c_r_2
  replace f_r_3 := frozen_later hs2 c_r_3 f_r_3
  replace c_r_3 := cell_later hs2 c_r_3
  clear z_r
  have z_r := World.block_lt_of_cell? _ _ c_r_0
  have hB2 := below_two hB1 hs2
  clear hB1 hs2
  go_wp2_with fail
  have hR' := hR.below hB2
  refine (readBase_any _ _ hR').mono ?_
  rintro e w3 ⟨rfl, hb3⟩
  clear hR'
  have hs3 := hb3
  replace f_r_0 := frozen_later hs3 c_r_0 f_r_0
  replace c_r_0 := cell_later hs3 c_r_0
  replace f_r_1 := frozen_later hs3 c_r_1 f_r_1
  replace c_r_1 := cell_later hs3 c_r_1
  replace f_r_2 := frozen_later hs3 c_r_2 f_r_2
  replace c_r_2 := cell_later hs3 c_r_2
  replace f_r_3 := frozen_later hs3 c_r_3 f_r_3
  replace c_r_3 := cell_later hs3 c_r_3
  clear z_r
  have z_r := World.block_lt_of_cell? _ _ c_r_0
  have hB3 := below_two hB2 hs3
  clear hB2 hs3
  rw [show (ByteArray.mk g.toArray).data.toList = g by simp, HV.out]
  go_wp2_with fail
  have hR' := hR.below (hB3.alloc hB3.size (.cells #[.int .i64 ((k : Int)), .int .i64 d, .int .i64 0, .int .i64 0] 23))
  refine (readTuplet_any _ _ hR' (by rw [sz]; omega)).mono ?_
  rintro e w4 ⟨rfl, hb4⟩
  clear hR'
  have y4_r := z_r
  have hs4 : Below w3.heap.size w3 w4 := Below.trans (by repeat (first | exact Below.refl _ _ | refine Below.alloc ?_ (by simp <;> omega) _)) (hb4.mono (by simp <;> omega))
  replace f_r_0 := frozen_later hs4 c_r_0 f_r_0
  replace c_r_0 := cell_later hs4 c_r_0
  replace f_r_1 := frozen_later hs4 c_r_1 f_r_1
  replace c_r_1 := cell_later hs4 c_r_1
  replace f_r_2 := frozen_later hs4 c_r_2 f_r_2
  replace c_r_2 := cell_later hs4 c_r_2
  replace f_r_3 := frozen_later hs4 c_r_3 f_r_3
  replace c_r_3 := cell_later hs4 c_r_3
  have c_v_0 : w4.cell? ⟨w3.heap.size, 0, none⟩ = some (.int .i64 ((k : Int))) := (hb4.cell (by simp <;> omega)).trans (by go_simp)
  have f_v_0 : w4.frozen? ⟨w3.heap.size, 0, none⟩ = false := (hb4.frozen (by simp <;> omega)).trans (by go_simp)
  have c_v_1 : w4.cell? ⟨w3.heap.size, 1, none⟩ = some (.int .i64 d) := (hb4.cell (by simp <;> omega)).trans (by go_simp)
  have f_v_1 : w4.frozen? ⟨w3.heap.size, 1, none⟩ = false := (hb4.frozen (by simp <;> omega)).trans (by go_simp)
  have c_v_2 : w4.cell? ⟨w3.heap.size, 2, none⟩ = some (.int .i64 0) := (hb4.cell (by simp <;> omega)).trans (by go_simp)
  have f_v_2 : w4.frozen? ⟨w3.heap.size, 2, none⟩ = false := (hb4.frozen (by simp <;> omega)).trans (by go_simp)
  have c_v_3 : w4.cell? ⟨w3.heap.size, 3, none⟩ = some (.int .i64 0) := (hb4.cell (by simp <;> omega)).trans (by go_simp)
  have f_v_3 : w4.frozen? ⟨w3.heap.size, 3, none⟩ = false := (hb4.frozen (by simp <;> omega)).trans (by go_simp)
  clear z_r
  have z_r := World.block_lt_of_cell? _ _ c_r_0
  have z_v := World.block_lt_of_cell? _ _ c_v_0
  have hB4 := below_two hB3 hs4
  clear hB3 hs4 hb4
  rw [show (ByteArray.mk b.toArray).data.toList = b by simp, HT.out]
  go_wp2_with fail
  have n_r_0 : ((w4.setCell ⟨w3.heap.size, 2, none⟩ (.int .i64 n)).setCell ⟨w3.heap.size, 3, none⟩ (.int .i64 e)).cell? ⟨w.heap.size, 0, none⟩ = some (.int .i64 0) := set_far (by omega) (set_far (by omega) c_r_0)
  have p_r_0 : ((w4.setCell ⟨w3.heap.size, 2, none⟩ (.int .i64 n)).setCell ⟨w3.heap.size, 3, none⟩ (.int .i64 e)).frozen? ⟨w.heap.size, 0, none⟩ = false := set_frozen (set_frozen f_r_0)
  have n_r_1 : ((w4.setCell ⟨w3.heap.size, 2, none⟩ (.int .i64 n)).setCell ⟨w3.heap.size, 3, none⟩ (.int .i64 e)).cell? ⟨w.heap.size, 1, none⟩ = some (.int .i64 0) := set_far (by omega) (set_far (by omega) c_r_1)
  have p_r_1 : ((w4.setCell ⟨w3.heap.size, 2, none⟩ (.int .i64 n)).setCell ⟨w3.heap.size, 3, none⟩ (.int .i64 e)).frozen? ⟨w.heap.size, 1, none⟩ = false := set_frozen (set_frozen f_r_1)
  have n_r_2 : ((w4.setCell ⟨w3.heap.size, 2, none⟩ (.int .i64 n)).setCell ⟨w3.heap.size, 3, none⟩ (.int .i64 e)).cell? ⟨w.heap.size, 2, none⟩ = some (.int .i64 0) := set_far (by omega) (set_far (by omega) c_r_2)
  have p_r_2 : ((w4.setCell ⟨w3.heap.size, 2, none⟩ (.int .i64 n)).setCell ⟨w3.heap.size, 3, none⟩ (.int .i64 e)).frozen? ⟨w.heap.size, 2, none⟩ = false := set_frozen (set_frozen f_r_2)
  have n_r_3 : ((w4.setCell ⟨w3.heap.size, 2, none⟩ (.int .i64 n)).setCell ⟨w3.heap.size, 3, none⟩ (.int .i64 e)).cell? ⟨w.heap.size, 3, none⟩ = some (.int .i64 0) := set_far (by omega) (set_far (by omega) c_r_3)
  have p_r_3 : ((w4.setCell ⟨w3.heap.size, 2, none⟩ (.int .i64 n)).setCell ⟨w3.heap.size, 3, none⟩ (.int .i64 e)).frozen? ⟨w.heap.size, 3, none⟩ = false := set_frozen (set_frozen f_r_3)
  have n_v_0 : ((w4.setCell ⟨w3.heap.size, 2, none⟩ (.int .i64 n)).setCell ⟨w3.heap.size, 3, none⟩ (.int .i64 e)).cell? ⟨w3.heap.size, 0, none⟩ = some (.int .i64 (k : Int)) := set_beside (by decide) (set_beside (by decide) c_v_0)
  have n_v_1 : ((w4.setCell ⟨w3.heap.size, 2, none⟩ (.int .i64 n)).setCell ⟨w3.heap.size, 3, none⟩ (.int .i64 e)).cell? ⟨w3.heap.size, 1, none⟩ = some (.int .i64 d) := set_beside (by decide) (set_beside (by decide) c_v_1)
  have n_v_2 : ((w4.setCell ⟨w3.heap.size, 2, none⟩ (.int .i64 n)).setCell ⟨w3.heap.size, 3, none⟩ (.int .i64 e)).cell? ⟨w3.heap.size, 2, none⟩ = some (.int .i64 n) := set_beside (by decide) (set_same (held_of c_v_2))
  have n_v_3 : ((w4.setCell ⟨w3.heap.size, 2, none⟩ (.int .i64 n)).setCell ⟨w3.heap.size, 3, none⟩ (.int .i64 e)).cell? ⟨w3.heap.size, 3, none⟩ = some (.int .i64 e) := set_same (set_held (held_of c_v_3))
  have hB5 : Below w.heap.size w ((w4.setCell ⟨w3.heap.size, 2, none⟩ (.int .i64 n)).setCell ⟨w3.heap.size, 3, none⟩ (.int .i64 e)) := set1_below (set1_below hB4 (by omega)) (by omega)
  clear c_r_0 c_r_1 c_r_2 c_r_3 f_r_0 f_r_1 f_r_2 f_r_3 c_v_0 c_v_1 c_v_2 c_v_3 f_v_0 f_v_1 f_v_2 f_v_3 z_v z_r hB4
  generalize ((w4.setCell ⟨w3.heap.size, 2, none⟩ (.int .i64 n)).setCell ⟨w3.heap.size, 3, none⟩ (.int .i64 e)) = w5 at *
  have c_r_0 := n_r_0
  have f_r_0 := p_r_0
  have c_v_0 := n_v_0
  clear n_r_0 p_r_0 n_v_0
  have c_r_1 := n_r_1
  have f_r_1 := p_r_1
  have c_v_1 := n_v_1
  clear n_r_1 p_r_1 n_v_1
  have c_r_2 := n_r_2
  have f_r_2 := p_r_2
  have c_v_2 := n_v_2
  clear n_r_2 p_r_2 n_v_2
  have c_r_3 := n_r_3
  have f_r_3 := p_r_3
  have c_v_3 := n_v_3
  clear n_r_3 p_r_3 n_v_3
  have z_r := World.block_lt_of_cell? _ _ c_r_0
  have z_v := World.block_lt_of_cell? _ _ c_v_0
  have hR' := hR.below hB5
  refine (vtext_any _ _ _ _ _ hR').mono ?_
  rintro e w6 ⟨rfl, hb6⟩
  clear hR'
  have hs6 := hb6
  replace f_r_0 := frozen_later hs6 c_r_0 f_r_0
  replace c_r_0 := cell_later hs6 c_r_0
  replace f_r_1 := frozen_later hs6 c_r_1 f_r_1
  replace c_r_1 := cell_later hs6 c_r_1
  replace f_r_2 := frozen_later hs6 c_r_2 f_r_2
  replace c_r_2 := cell_later hs6 c_r_2
  replace f_r_3 := frozen_later hs6 c_r_3 f_r_3
  replace c_r_3 := cell_later hs6 c_r_3
  replace c_v_0 := cell_later hs6 c_v_0
  replace c_v_1 := cell_later hs6 c_v_1
  replace c_v_2 := cell_later hs6 c_v_2
  replace c_v_3 := cell_later hs6 c_v_3
  clear z_r
  have z_r := World.block_lt_of_cell? _ _ c_r_0
  clear z_v
  have z_v := World.block_lt_of_cell? _ _ c_v_0
  have hB6 := below_two hB5 hs6
  clear hB5 hs6
  rw [HX.out.1, HX.out.2]
  obtain ⟨m0, m1, m2, m3⟩ := put4_of (x := .int .i64 0) (y := .int .i64 0) (z := .int .i64 0) (u := .int .i64 0) c_r_0 c_r_1 c_r_2 c_r_3
  go_wp2
  exact bodyPost_ret (v := .tuple #[vl (0) (0) (0) (0), .int .i64 12]) (by simp [results, Tryz.results12, go_sem, m0, m1, m2, m3]) rfl ⟨rfl, put4_below hB6 (by omega)⟩

set_option maxRecDepth 100000 in
set_option maxHeartbeats 4000000 in
theorem vread_good (s : ByteArray) (w : World) (hR : Vars w) (hs : s.size ≤ 1000) (f b g : List UInt8) (t : Bool) (hf : f.length ≤ 1000) (hb : b.length ≤ 1000) (HC : Hid (Lib.cut s.data.toList [42] = (f, b, t))) (HG : Hid (Lib.trimRightB f 46 = g)) (k : Nat) (d n e : Int) (HK : Hid (Val.rb g = k)) (hk : k < 7) (hd : IntKind.i64.wrap ((f.length : Int) - (g.length : Int)) = d) (HT : Hid (Val.rtu b = (n, e))) (T : List UInt8) (HX : Hid (Val.txtE (k : Int) d n e = T ∧ Val.lenE (k : Int) d n e = 0)) (hl : (T == s.data.toList) = true) :
    Calls Tryz.prog 12 #[.string s] w fun ed w' => ed = .returned (.tuple #[vl (k : Int) d n e, .int .i64 0]) ∧ Below w.heap.size w w' := by
  have HV : Hid (rbV (Val.rb g) = .tuple #[.int .i64 (k : Int), .bool true]) := Lib.hid (by rw [HK.out]; unfold rbV; rw [if_pos hk])
  have hl2 : (T == s.toList) = true := by rw [ByteArray.toList_eq]; exact hl
  have hB0 : Below w.heap.size w w := Below.refl _ _
  go_enter Tryz.func12, Tryz.ntmps12
  go_wp2_with fail
  have hR' := hR.below (hB0.alloc hB0.size (.cells #[.int .i64 0, .int .i64 0, .int .i64 0, .int .i64 0] 23))
  refine (cut_call s 42 rfl HC.out _ hs hR'.lib).mono ?_
  rintro e w1 ⟨rfl, hb1⟩
  clear hR'
  have hs1 : Below w.heap.size w w1 := Below.trans (by repeat (first | exact Below.refl _ _ | refine Below.alloc ?_ (by simp <;> omega) _)) (hb1.mono (by simp <;> omega))
  have c_r_0 : w1.cell? ⟨w.heap.size, 0, none⟩ = some (.int .i64 0) := (hb1.cell (by simp <;> omega)).trans (by go_simp)
  have f_r_0 : w1.frozen? ⟨w.heap.size, 0, none⟩ = false := (hb1.frozen (by simp <;> omega)).trans (by go_simp)
  have c_r_1 : w1.cell? ⟨w.heap.size, 1, none⟩ = some (.int .i64 0) := (hb1.cell (by simp <;> omega)).trans (by go_simp)
  have f_r_1 : w1.frozen? ⟨w.heap.size, 1, none⟩ = false := (hb1.frozen (by simp <;> omega)).trans (by go_simp)
  have c_r_2 : w1.cell? ⟨w.heap.size, 2, none⟩ = some (.int .i64 0) := (hb1.cell (by simp <;> omega)).trans (by go_simp)
  have f_r_2 : w1.frozen? ⟨w.heap.size, 2, none⟩ = false := (hb1.frozen (by simp <;> omega)).trans (by go_simp)
  have c_r_3 : w1.cell? ⟨w.heap.size, 3, none⟩ = some (.int .i64 0) := (hb1.cell (by simp <;> omega)).trans (by go_simp)
  have f_r_3 : w1.frozen? ⟨w.heap.size, 3, none⟩ = false := (hb1.frozen (by simp <;> omega)).trans (by go_simp)
  have z_r := World.block_lt_of_cell? _ _ c_r_0
  have hB1 := below_two hB0 hs1
  clear hB0 hs1 hb1
  go_wp2_with fail
  have hR' := hR.below hB1
  refine (trim_call _ (l := f) (by simp) HG.out _ (by rw [sz]; omega)).mono ?_
  rintro e w2 ⟨rfl, hb2⟩
  clear hR'
  have hs2 := hb2
  replace f_r_0 := frozen_later hs2 c_r_0 f_r_0
  replace c_r_0 := cell_later hs2 c_r_0
  replace f_r_1 := frozen_later hs2 c_r_1 f_r_1
  replace c_r_1 := cell_later hs2 c_r_1
  replace f_r_2 := frozen_later hs2 c_r_2 f_r_2
  replace c_r_2 := cell_later hs2 c_r_2
  replace f_r_3 := frozen_later hs2 c_r_3 f_r_3
  replace c_r_3 := cell_later hs2 c_r_3
  clear z_r
  have z_r := World.block_lt_of_cell? _ _ c_r_0
  have hB2 := below_two hB1 hs2
  clear hB1 hs2
  go_wp2_with fail
  have hR' := hR.below hB2
  refine (readBase_any _ _ hR').mono ?_
  rintro e w3 ⟨rfl, hb3⟩
  clear hR'
  have hs3 := hb3
  replace f_r_0 := frozen_later hs3 c_r_0 f_r_0
  replace c_r_0 := cell_later hs3 c_r_0
  replace f_r_1 := frozen_later hs3 c_r_1 f_r_1
  replace c_r_1 := cell_later hs3 c_r_1
  replace f_r_2 := frozen_later hs3 c_r_2 f_r_2
  replace c_r_2 := cell_later hs3 c_r_2
  replace f_r_3 := frozen_later hs3 c_r_3 f_r_3
  replace c_r_3 := cell_later hs3 c_r_3
  clear z_r
  have z_r := World.block_lt_of_cell? _ _ c_r_0
  have hB3 := below_two hB2 hs3
  clear hB2 hs3
  rw [show (ByteArray.mk g.toArray).data.toList = g by simp, HV.out]
  go_wp2_with fail
  have hR' := hR.below (hB3.alloc hB3.size (.cells #[.int .i64 ((k : Int)), .int .i64 d, .int .i64 0, .int .i64 0] 23))
  refine (readTuplet_any _ _ hR' (by rw [sz]; omega)).mono ?_
  rintro e w4 ⟨rfl, hb4⟩
  clear hR'
  have y4_r := z_r
  have hs4 : Below w3.heap.size w3 w4 := Below.trans (by repeat (first | exact Below.refl _ _ | refine Below.alloc ?_ (by simp <;> omega) _)) (hb4.mono (by simp <;> omega))
  replace f_r_0 := frozen_later hs4 c_r_0 f_r_0
  replace c_r_0 := cell_later hs4 c_r_0
  replace f_r_1 := frozen_later hs4 c_r_1 f_r_1
  replace c_r_1 := cell_later hs4 c_r_1
  replace f_r_2 := frozen_later hs4 c_r_2 f_r_2
  replace c_r_2 := cell_later hs4 c_r_2
  replace f_r_3 := frozen_later hs4 c_r_3 f_r_3
  replace c_r_3 := cell_later hs4 c_r_3
  have c_v_0 : w4.cell? ⟨w3.heap.size, 0, none⟩ = some (.int .i64 ((k : Int))) := (hb4.cell (by simp <;> omega)).trans (by go_simp)
  have f_v_0 : w4.frozen? ⟨w3.heap.size, 0, none⟩ = false := (hb4.frozen (by simp <;> omega)).trans (by go_simp)
  have c_v_1 : w4.cell? ⟨w3.heap.size, 1, none⟩ = some (.int .i64 d) := (hb4.cell (by simp <;> omega)).trans (by go_simp)
  have f_v_1 : w4.frozen? ⟨w3.heap.size, 1, none⟩ = false := (hb4.frozen (by simp <;> omega)).trans (by go_simp)
  have c_v_2 : w4.cell? ⟨w3.heap.size, 2, none⟩ = some (.int .i64 0) := (hb4.cell (by simp <;> omega)).trans (by go_simp)
  have f_v_2 : w4.frozen? ⟨w3.heap.size, 2, none⟩ = false := (hb4.frozen (by simp <;> omega)).trans (by go_simp)
  have c_v_3 : w4.cell? ⟨w3.heap.size, 3, none⟩ = some (.int .i64 0) := (hb4.cell (by simp <;> omega)).trans (by go_simp)
  have f_v_3 : w4.frozen? ⟨w3.heap.size, 3, none⟩ = false := (hb4.frozen (by simp <;> omega)).trans (by go_simp)
  clear z_r
  have z_r := World.block_lt_of_cell? _ _ c_r_0
  have z_v := World.block_lt_of_cell? _ _ c_v_0
  have hB4 := below_two hB3 hs4
  clear hB3 hs4 hb4
  rw [show (ByteArray.mk b.toArray).data.toList = b by simp, HT.out]
  go_wp2_with fail
  have n_r_0 : ((w4.setCell ⟨w3.heap.size, 2, none⟩ (.int .i64 n)).setCell ⟨w3.heap.size, 3, none⟩ (.int .i64 e)).cell? ⟨w.heap.size, 0, none⟩ = some (.int .i64 0) := set_far (by omega) (set_far (by omega) c_r_0)
  have p_r_0 : ((w4.setCell ⟨w3.heap.size, 2, none⟩ (.int .i64 n)).setCell ⟨w3.heap.size, 3, none⟩ (.int .i64 e)).frozen? ⟨w.heap.size, 0, none⟩ = false := set_frozen (set_frozen f_r_0)
  have n_r_1 : ((w4.setCell ⟨w3.heap.size, 2, none⟩ (.int .i64 n)).setCell ⟨w3.heap.size, 3, none⟩ (.int .i64 e)).cell? ⟨w.heap.size, 1, none⟩ = some (.int .i64 0) := set_far (by omega) (set_far (by omega) c_r_1)
  have p_r_1 : ((w4.setCell ⟨w3.heap.size, 2, none⟩ (.int .i64 n)).setCell ⟨w3.heap.size, 3, none⟩ (.int .i64 e)).frozen? ⟨w.heap.size, 1, none⟩ = false := set_frozen (set_frozen f_r_1)
  have n_r_2 : ((w4.setCell ⟨w3.heap.size, 2, none⟩ (.int .i64 n)).setCell ⟨w3.heap.size, 3, none⟩ (.int .i64 e)).cell? ⟨w.heap.size, 2, none⟩ = some (.int .i64 0) := set_far (by omega) (set_far (by omega) c_r_2)
  have p_r_2 : ((w4.setCell ⟨w3.heap.size, 2, none⟩ (.int .i64 n)).setCell ⟨w3.heap.size, 3, none⟩ (.int .i64 e)).frozen? ⟨w.heap.size, 2, none⟩ = false := set_frozen (set_frozen f_r_2)
  have n_r_3 : ((w4.setCell ⟨w3.heap.size, 2, none⟩ (.int .i64 n)).setCell ⟨w3.heap.size, 3, none⟩ (.int .i64 e)).cell? ⟨w.heap.size, 3, none⟩ = some (.int .i64 0) := set_far (by omega) (set_far (by omega) c_r_3)
  have p_r_3 : ((w4.setCell ⟨w3.heap.size, 2, none⟩ (.int .i64 n)).setCell ⟨w3.heap.size, 3, none⟩ (.int .i64 e)).frozen? ⟨w.heap.size, 3, none⟩ = false := set_frozen (set_frozen f_r_3)
  have n_v_0 : ((w4.setCell ⟨w3.heap.size, 2, none⟩ (.int .i64 n)).setCell ⟨w3.heap.size, 3, none⟩ (.int .i64 e)).cell? ⟨w3.heap.size, 0, none⟩ = some (.int .i64 (k : Int)) := set_beside (by decide) (set_beside (by decide) c_v_0)
  have n_v_1 : ((w4.setCell ⟨w3.heap.size, 2, none⟩ (.int .i64 n)).setCell ⟨w3.heap.size, 3, none⟩ (.int .i64 e)).cell? ⟨w3.heap.size, 1, none⟩ = some (.int .i64 d) := set_beside (by decide) (set_beside (by decide) c_v_1)
  have n_v_2 : ((w4.setCell ⟨w3.heap.size, 2, none⟩ (.int .i64 n)).setCell ⟨w3.heap.size, 3, none⟩ (.int .i64 e)).cell? ⟨w3.heap.size, 2, none⟩ = some (.int .i64 n) := set_beside (by decide) (set_same (held_of c_v_2))
  have n_v_3 : ((w4.setCell ⟨w3.heap.size, 2, none⟩ (.int .i64 n)).setCell ⟨w3.heap.size, 3, none⟩ (.int .i64 e)).cell? ⟨w3.heap.size, 3, none⟩ = some (.int .i64 e) := set_same (set_held (held_of c_v_3))
  have hB5 : Below w.heap.size w ((w4.setCell ⟨w3.heap.size, 2, none⟩ (.int .i64 n)).setCell ⟨w3.heap.size, 3, none⟩ (.int .i64 e)) := set1_below (set1_below hB4 (by omega)) (by omega)
  clear c_r_0 c_r_1 c_r_2 c_r_3 f_r_0 f_r_1 f_r_2 f_r_3 c_v_0 c_v_1 c_v_2 c_v_3 f_v_0 f_v_1 f_v_2 f_v_3 z_v z_r hB4
  generalize ((w4.setCell ⟨w3.heap.size, 2, none⟩ (.int .i64 n)).setCell ⟨w3.heap.size, 3, none⟩ (.int .i64 e)) = w5 at *
  have c_r_0 := n_r_0
  have f_r_0 := p_r_0
  have c_v_0 := n_v_0
  clear n_r_0 p_r_0 n_v_0
  have c_r_1 := n_r_1
  have f_r_1 := p_r_1
  have c_v_1 := n_v_1
  clear n_r_1 p_r_1 n_v_1
  have c_r_2 := n_r_2
  have f_r_2 := p_r_2
  have c_v_2 := n_v_2
  clear n_r_2 p_r_2 n_v_2
  have c_r_3 := n_r_3
  have f_r_3 := p_r_3
  have c_v_3 := n_v_3
  clear n_r_3 p_r_3 n_v_3
  have z_r := World.block_lt_of_cell? _ _ c_r_0
  have z_v := World.block_lt_of_cell? _ _ c_v_0
  have hR' := hR.below hB5
  refine (vtext_any _ _ _ _ _ hR').mono ?_
  rintro e w6 ⟨rfl, hb6⟩
  clear hR'
  have hs6 := hb6
  replace f_r_0 := frozen_later hs6 c_r_0 f_r_0
  replace c_r_0 := cell_later hs6 c_r_0
  replace f_r_1 := frozen_later hs6 c_r_1 f_r_1
  replace c_r_1 := cell_later hs6 c_r_1
  replace f_r_2 := frozen_later hs6 c_r_2 f_r_2
  replace c_r_2 := cell_later hs6 c_r_2
  replace f_r_3 := frozen_later hs6 c_r_3 f_r_3
  replace c_r_3 := cell_later hs6 c_r_3
  replace c_v_0 := cell_later hs6 c_v_0
  replace c_v_1 := cell_later hs6 c_v_1
  replace c_v_2 := cell_later hs6 c_v_2
  replace c_v_3 := cell_later hs6 c_v_3
  clear z_r
  have z_r := World.block_lt_of_cell? _ _ c_r_0
  clear z_v
  have z_v := World.block_lt_of_cell? _ _ c_v_0
  have hB6 := below_two hB5 hs6
  clear hB5 hs6
  rw [HX.out.1, HX.out.2]
  obtain ⟨m0, m1, m2, m3⟩ := put4_of (x := .int .i64 ((k : Int))) (y := .int .i64 d) (z := .int .i64 n) (u := .int .i64 e) c_r_0 c_r_1 c_r_2 c_r_3
  go_wp2
  exact bodyPost_ret (v := .tuple #[vl ((k : Int)) (d) (n) (e), .int .i64 0]) (by simp [results, Tryz.results12, go_sem, m0, m1, m2, m3]) rfl ⟨rfl, put4_below hB6 (by omega)⟩

theorem trim_le (l : List UInt8) : (Lib.trimRightB l 46).length ≤ l.length := by
  unfold Lib.trimRightB
  rw [List.length_reverse]
  exact Nat.le_trans (List.IsSuffix.length_le (List.dropWhile_suffix _)) (by simp)
theorem vread_any (s : ByteArray) (w : World) (hR : Vars w) (hs : s.size ≤ 1000) :
    Calls Tryz.prog 12 #[.string s] w fun ed w' => ed = .returned (rdV (Val.rdv s.data.toList)) ∧ Below w.heap.size w w' := by
  have hl : s.data.toList.length ≤ 1000 := by rw [← Lib.size_eq]; exact hs
  have hc := Val.cut_short 42 s.data.toList
  unfold Val.rdv Val.rdIn
  obtain ⟨f, b, t, he⟩ : ∃ f b t, Lib.cut s.data.toList [42] = (f, b, t) := ⟨_, _, _, rfl⟩
  rw [he] at hc ⊢
  simp only at hc ⊢
  obtain ⟨g, hg⟩ : ∃ g, Lib.trimRightB f 46 = g := ⟨_, rfl⟩
  have hgl := trim_le f
  rw [hg] at hgl ⊢
  obtain ⟨n, e, ht⟩ : ∃ n e, Val.rtu b = (n, e) := ⟨_, _, rfl⟩
  obtain ⟨k, hk⟩ : ∃ k, Val.rb g = k := ⟨_, rfl⟩
  rw [ht, hk]
  unfold Val.rdOf
  by_cases h7 : k < 7
  · rw [if_pos h7]
    have hd : IntKind.i64.wrap ((f.length : Int) - (g.length : Int)) = (f.length : Int) - (g.length : Int) := IntWalk.i64_in _ (by omega)
    simp only
    cases hok : Val.ok k ((f.length : Int) - (g.length : Int)) n e
    · simp only [Bool.false_and, Bool.false_eq_true, if_false]
      exact vread_bad s w hR hs f b g t (by omega) (by omega) (Lib.hid he) (Lib.hid hg) k _ n e (Lib.hid hk) h7 hd (Lib.hid ht) _ (Lib.hid ⟨rfl, by unfold Val.lenE; rw [hok]; rfl⟩)
    · have hX : Val.txtE k ((f.length : Int) - (g.length : Int)) n e = Val.txt k ((f.length : Int) - (g.length : Int)) n e ∧ Val.lenE k ((f.length : Int) - (g.length : Int)) n e = 0 := by unfold Val.txtE Val.lenE; rw [hok]; exact ⟨rfl, rfl⟩
      cases hT : (Val.txt k ((f.length : Int) - (g.length : Int)) n e == s.data.toList)
      · simp only [Bool.and_false, Bool.false_eq_true, if_false]
        exact vread_other s w hR hs f b g t (by omega) (by omega) (Lib.hid he) (Lib.hid hg) k _ n e (Lib.hid hk) h7 hd (Lib.hid ht) _ (Lib.hid hX) hT
      · simp only [Bool.and_self, if_true]
        exact vread_good s w hR hs f b g t (by omega) (by omega) (Lib.hid he) (Lib.hid hg) k _ n e (Lib.hid hk) h7 hd (Lib.hid ht) _ (Lib.hid hX) hT
  · rw [if_neg h7]
    exact vread_no s w hR hs f b g t (by omega) (Lib.hid he) (Lib.hid hg) (by rw [hk]; exact h7)
end Go.Proofs.YtejiifkenanodaaGreatDoor
