/-
  ValueTells answers true: the law's walk.
-/
import Derived.Test.YtejiifkenanodaaGreatDoorValV
import Derived.Test.YtejiifkenanodaaGreatDoorValueText
import Derived.Deep.DeepCutAuto
import Derived.Deep.RegionHeld3
namespace Go.Proofs.YtejiifkenanodaaGreatDoor
open Go.RowKit

/-- What program and reference say of one value: the same. -/
def TO (x0 x1 x2 x3 : Int) : Prop := ∃ (aN aD er : Int) (T : List UInt8) (o : Bool),
  Hid (∀ w, Vars w → Calls Tryz.prog 15 #[vl x0 x1 x2 x3] w fun ed w' => ed = .returned (rv aN aD er) ∧ Below w.heap.size w w') ∧ Hid (∀ w, Calls Tryz.prog 16 #[vl x0 x1 x2 x3] w fun ed w' => ed = .returned (rv aN aD er) ∧ Below w.heap.size w w') ∧
  Hid (∀ w, Vars w → Calls Tryz.prog 17 #[vl x0 x1 x2 x3] w fun ed w' => ed = .returned (.tuple #[.string ⟨T.toArray⟩, .int .i64 er]) ∧ Below w.heap.size w w') ∧ Hid (∀ w, Calls Tryz.prog 18 #[vl x0 x1 x2 x3] w fun ed w' => ed = .returned (.tuple #[.string ⟨T.toArray⟩, .int .i64 er]) ∧ Below w.heap.size w w') ∧
  Hid (∀ w, Calls Tryz.prog 19 #[vl x0 x1 x2 x3] w fun ed w' => ed = .returned (.bool o) ∧ Below w.heap.size w w') ∧ Hid (∀ w, Calls Tryz.prog 20 #[vl x0 x1 x2 x3] w fun ed w' => ed = .returned (.bool o) ∧ Below w.heap.size w w') ∧ Hid (∀ w, Vars w → Calls Tryz.prog 21 #[rt aN aD] w fun ed w' => ed = .returned (.bool true) ∧ Below w.heap.size w w')
/-- A ratio's block, somewhere. -/
def AtB (X Y : Int) (w0 : World) (p : Value) (wx : World) : Prop := ∃ A : Nat, p = .pointer (some ⟨A, 0, none⟩) ∧ wx.cell? ⟨A, 0, none⟩ = some (.int .i64 X) ∧ wx.cell? ⟨A, 1, none⟩ = some (.int .i64 Y) ∧ Below w0.heap.size w0 wx

set_option maxRecDepth 100000 in
set_option maxHeartbeats 4000000 in
theorem valueTells_walk (b d n e l k : Int) (s : ByteArray) (w : World) (hR : Vars w) (il : Rat.I64 l) (ik : Rat.I64 k) (F : ByteArray) (HF : Hid (s.extract 0 (min (s.size : Int) 30).toNat = F)) (r0 r1 r2 r3 re : Int) (HRA : Hid (∀ w, Vars w → Calls Tryz.prog 12 #[.string F] w fun ed w' => ed = .returned (.tuple #[vl r0 r1 r2 r3, .int .i64 re]) ∧ Below w.heap.size w w')) (HRB : Hid (∀ w, Calls Tryz.prog 13 #[.string F] w fun ed w' => ed = .returned (.tuple #[vl r0 r1 r2 r3, .int .i64 re]) ∧ Below w.heap.size w w')) (B D N E : Int) (HV : Hid (∀ w, Calls Tryz.prog 14 #[vl b d n e] w fun ed w' => ed = .returned (vl B D N E) ∧ Below w.heap.size w w')) (X0 X1 X2 X3 : Nat → Int) (h00 : X0 0 = b) (h01 : X1 0 = d) (h02 : X2 0 = n) (h03 : X3 0 = e) (h10 : X0 1 = B) (h11 : X1 1 = D) (h12 : X2 1 = N) (h13 : X3 1 = E) (HQ : Hid (∀ r, r < 2 → TO (X0 r) (X1 r) (X2 r) (X3 r))) (p1 p2 p3 u2 : Int) (HP1 : Hid (pickS l 4097 = p1)) (HP2 : Hid (pickS k 420 = p2)) (HP3 : Hid (pickS l 600 = p3)) (hu2 : IntKind.i64.wrap (1 + p2) = u2) (i1 : Rat.I64 p1) (i2 : Rat.I64 u2) (i3 : Rat.I64 p3) (i64' : Rat.I64 64) (sN sD sE gN gD gE : Int) (HO1 : Hid (Rat.ofN p1 u2 = sN ∧ Rat.ofD p1 u2 = sD ∧ Rat.ofE p1 u2 = sE)) (HO2 : Hid (Rat.ofN p3 64 = gN ∧ Rat.ofD p3 64 = gD ∧ Rat.ofE p3 64 = gE)) (HS0 : Hid (∀ w, Vars w → Calls Tryz.prog 21 #[rt l k] w fun ed w' => ed = .returned (.bool true) ∧ Below w.heap.size w w')) (HS1 : Hid (∀ w, Vars w → Calls Tryz.prog 21 #[rt sN sD] w fun ed w' => ed = .returned (.bool true) ∧ Below w.heap.size w w')) (HS2 : Hid (∀ w, Vars w → Calls Tryz.prog 21 #[rt gN gD] w fun ed w' => ed = .returned (.bool true) ∧ Below w.heap.size w w')) :
    Calls Tryz.prog 3 #[vl b d n e, rt l k, .string s] w fun ed w' => ed = .returned (.bool true) ∧ Below w.heap.size w w' := by
  have hgR := guardR
  have hgV := guardV
  have heR := eql_rt
  have heV := eql_vl
  have hnR := neq_rt
  have hnV := neq_vl
  have hsR := eqR_self
  have hsV := eqV_self
  have hB0 : Below w.heap.size w w := Below.refl _ _
  go_enter Tryz.func3, Tryz.ntmps3
  go_wp2_with fail
  have hR' := hR.below ((hB0.alloc hB0.size (.cells #[.int .i64 b, .int .i64 d, .int .i64 n, .int .i64 e] 23)).alloc (hB0.alloc hB0.size (.cells #[.int .i64 b, .int .i64 d, .int .i64 n, .int .i64 e] 23)).size (.cells #[.int .i64 l, .int .i64 k] 25))
  refine (examples_any _ hR').mono ?_
  rintro e w1 ⟨rfl, hb1⟩
  clear hR'
  have hs1 : Below w.heap.size w w1 := Below.trans (by repeat (first | exact Below.refl _ _ | refine Below.alloc ?_ (by simp <;> omega) _)) (hb1.mono (by simp <;> omega))
  have c_v_0 : w1.cell? ⟨w.heap.size, 0, none⟩ = some (.int .i64 b) := (hb1.cell (by simp <;> omega)).trans (by go_simp)
  have c_v_1 : w1.cell? ⟨w.heap.size, 1, none⟩ = some (.int .i64 d) := (hb1.cell (by simp <;> omega)).trans (by go_simp)
  have c_v_2 : w1.cell? ⟨w.heap.size, 2, none⟩ = some (.int .i64 n) := (hb1.cell (by simp <;> omega)).trans (by go_simp)
  have c_v_3 : w1.cell? ⟨w.heap.size, 3, none⟩ = some (.int .i64 e) := (hb1.cell (by simp <;> omega)).trans (by go_simp)
  have c_l_0 : w1.cell? ⟨w.heap.size + 1, 0, none⟩ = some (.int .i64 l) := (hb1.cell (by simp <;> omega)).trans (by go_simp)
  have c_l_1 : w1.cell? ⟨w.heap.size + 1, 1, none⟩ = some (.int .i64 k) := (hb1.cell (by simp <;> omega)).trans (by go_simp)
  have z_l := World.block_lt_of_cell? _ _ c_l_0
  have z_v := World.block_lt_of_cell? _ _ c_v_0
  have hB1 := below_two hB0 hs1
  clear hB0 hs1 hb1
  go_wp2_with fail
  have hR' := hR.below hB1
  rw [HF.out]
  refine (HRA.out _ hR').mono ?_
  rintro e w2 ⟨rfl, hb2⟩
  clear hR'
  have hs2 := hb2
  replace c_v_0 := cell_later hs2 c_v_0
  replace c_v_1 := cell_later hs2 c_v_1
  replace c_v_2 := cell_later hs2 c_v_2
  replace c_v_3 := cell_later hs2 c_v_3
  replace c_l_0 := cell_later hs2 c_l_0
  replace c_l_1 := cell_later hs2 c_l_1
  clear z_l
  have z_l := World.block_lt_of_cell? _ _ c_l_0
  clear z_v
  have z_v := World.block_lt_of_cell? _ _ c_v_0
  have hB2 := below_two hB1 hs2
  clear hB1 hs2
  go_wp2_with fail
  have hR' := hR.below (hB2.alloc hB2.size (.cells #[.int .i64 r0, .int .i64 r1, .int .i64 r2, .int .i64 r3] 23))
  refine (HRB.out _).mono ?_
  rintro e w3 ⟨rfl, hb3⟩
  clear hR'
  have hs3 : Below w2.heap.size w2 w3 := Below.trans (by repeat (first | exact Below.refl _ _ | refine Below.alloc ?_ (by simp <;> omega) _)) (hb3.mono (by simp <;> omega))
  replace c_v_0 := cell_later hs3 c_v_0
  replace c_v_1 := cell_later hs3 c_v_1
  replace c_v_2 := cell_later hs3 c_v_2
  replace c_v_3 := cell_later hs3 c_v_3
  replace c_l_0 := cell_later hs3 c_l_0
  replace c_l_1 := cell_later hs3 c_l_1
  have c_r_0 : w3.cell? ⟨w2.heap.size, 0, none⟩ = some (.int .i64 r0) := (hb3.cell (by simp <;> omega)).trans (by go_simp)
  have c_r_1 : w3.cell? ⟨w2.heap.size, 1, none⟩ = some (.int .i64 r1) := (hb3.cell (by simp <;> omega)).trans (by go_simp)
  have c_r_2 : w3.cell? ⟨w2.heap.size, 2, none⟩ = some (.int .i64 r2) := (hb3.cell (by simp <;> omega)).trans (by go_simp)
  have c_r_3 : w3.cell? ⟨w2.heap.size, 3, none⟩ = some (.int .i64 r3) := (hb3.cell (by simp <;> omega)).trans (by go_simp)
  clear z_l
  have z_l := World.block_lt_of_cell? _ _ c_l_0
  have z_r := World.block_lt_of_cell? _ _ c_r_0
  clear z_v
  have z_v := World.block_lt_of_cell? _ _ c_v_0
  have hB3 := below_two hB2 hs3
  clear hB2 hs3 hb3
  go_wp2_with fail
  have hs4 : Below w3.heap.size w3 (w3.alloc (.cells #[.int .i64 r0, .int .i64 r1, .int .i64 r2, .int .i64 r3] 23)) := by repeat (first | exact Below.refl _ _ | refine Below.alloc ?_ (by simp <;> omega) _)
  replace c_v_0 := cell_later hs4 c_v_0
  replace c_v_1 := cell_later hs4 c_v_1
  replace c_v_2 := cell_later hs4 c_v_2
  replace c_v_3 := cell_later hs4 c_v_3
  replace c_l_0 := cell_later hs4 c_l_0
  replace c_l_1 := cell_later hs4 c_l_1
  replace c_r_0 := cell_later hs4 c_r_0
  replace c_r_1 := cell_later hs4 c_r_1
  replace c_r_2 := cell_later hs4 c_r_2
  replace c_r_3 := cell_later hs4 c_r_3
  have c_q_0 : (w3.alloc (.cells #[.int .i64 r0, .int .i64 r1, .int .i64 r2, .int .i64 r3] 23)).cell? ⟨w3.heap.size, 0, none⟩ = some (.int .i64 r0) := by go_simp
  have c_q_1 : (w3.alloc (.cells #[.int .i64 r0, .int .i64 r1, .int .i64 r2, .int .i64 r3] 23)).cell? ⟨w3.heap.size, 1, none⟩ = some (.int .i64 r1) := by go_simp
  have c_q_2 : (w3.alloc (.cells #[.int .i64 r0, .int .i64 r1, .int .i64 r2, .int .i64 r3] 23)).cell? ⟨w3.heap.size, 2, none⟩ = some (.int .i64 r2) := by go_simp
  have c_q_3 : (w3.alloc (.cells #[.int .i64 r0, .int .i64 r1, .int .i64 r2, .int .i64 r3] 23)).cell? ⟨w3.heap.size, 3, none⟩ = some (.int .i64 r3) := by go_simp
  have hB4 := below_two hB3 hs4
  clear hB3 hs4
  have y4_l := z_l
  have y4_r := z_r
  have y4_v := z_v
  generalize (w3.alloc (.cells #[.int .i64 r0, .int .i64 r1, .int .i64 r2, .int .i64 r3] 23)) = w4 at *
  clear z_l
  have z_l := World.block_lt_of_cell? _ _ c_l_0
  have z_q := World.block_lt_of_cell? _ _ c_q_0
  clear z_r
  have z_r := World.block_lt_of_cell? _ _ c_r_0
  clear z_v
  have z_v := World.block_lt_of_cell? _ _ c_v_0
  go_upto_region 9 with fail
  clear c_r_0 c_r_1 c_r_2 c_r_3 c_q_0 c_q_1 c_q_2 c_q_3 z_r z_q z_v z_l
  go_region_held3 (fun w' => w'.cell? ⟨w.heap.size, 0, none⟩ = some (.int .i64 b) ∧ w'.cell? ⟨w.heap.size, 1, none⟩ = some (.int .i64 d) ∧ w'.cell? ⟨w.heap.size, 2, none⟩ = some (.int .i64 n) ∧ w'.cell? ⟨w.heap.size, 3, none⟩ = some (.int .i64 e) ∧ w'.cell? ⟨w.heap.size + 1, 0, none⟩ = some (.int .i64 l) ∧ w'.cell? ⟨w.heap.size + 1, 1, none⟩ = some (.int .i64 k) ∧ Below w.heap.size w w')
    (((try go_split_ands); refine ⟨?_, ?_, ?_, ?_, ?_, ?_, ?_⟩ <;> first | with_reducible assumption | (with_reducible refine cell_later hq ?_; with_reducible assumption) | (with_reducible refine below_two ?_ hq; with_reducible assumption) | (with_reducible refine alloc_cell ?_; with_reducible assumption) | (with_reducible refine alloc_below ?_; with_reducible assumption) | with_reducible exact cell_drew c_v_0 | with_reducible exact cell_drew c_v_1 | with_reducible exact cell_drew c_v_2 | with_reducible exact cell_drew c_v_3 | with_reducible exact cell_drew c_l_0 | with_reducible exact cell_drew c_l_1 | with_reducible exact hB4.drew))
    (first
      | (go_at_call 14; refine (HV.out _).mono ?_; rintro ed w5 ⟨rfl, hq⟩))
  rename_i hS
  clear c_v_0 c_v_1 c_v_2 c_v_3 c_l_0 c_l_1 hB4
  obtain ⟨c_v_0, c_v_1, c_v_2, c_v_3, c_l_0, c_l_1, hB5⟩ := hS
  have hTab : ∀ r, r < 2 → (w5.alloc (.cells #[.int .i64 b, .int .i64 d, .int .i64 n, .int .i64 e, .int .i64 B, .int .i64 D, .int .i64 N, .int .i64 E] 23)).cell? ⟨w5.heap.size, r * 4, none⟩ = some (.int .i64 (X0 r)) ∧ (w5.alloc (.cells #[.int .i64 b, .int .i64 d, .int .i64 n, .int .i64 e, .int .i64 B, .int .i64 D, .int .i64 N, .int .i64 E] 23)).cell? ⟨w5.heap.size, r * 4 + 1, none⟩ = some (.int .i64 (X1 r)) ∧ (w5.alloc (.cells #[.int .i64 b, .int .i64 d, .int .i64 n, .int .i64 e, .int .i64 B, .int .i64 D, .int .i64 N, .int .i64 E] 23)).cell? ⟨w5.heap.size, r * 4 + 2, none⟩ = some (.int .i64 (X2 r)) ∧ (w5.alloc (.cells #[.int .i64 b, .int .i64 d, .int .i64 n, .int .i64 e, .int .i64 B, .int .i64 D, .int .i64 N, .int .i64 E] 23)).cell? ⟨w5.heap.size, r * 4 + 3, none⟩ = some (.int .i64 (X3 r)) := by
    intro r hr
    match r, hr with
    | 0, _ => rw [h00, h01, h02, h03]; exact ⟨by go_simp, by go_simp, by go_simp, by go_simp⟩
    | 1, _ => rw [h10, h11, h12, h13]; exact ⟨by go_simp, by go_simp, by go_simp, by go_simp⟩
  have HTab := Lib.hid hTab
  clear hTab h00 h01 h02 h03 h10 h11 h12 h13
  go_wp2_with fail
  generalize w5.alloc (.cells #[.int .i64 b, .int .i64 d, .int .i64 n, .int .i64 e, .int .i64 B, .int .i64 D, .int .i64 N, .int .i64 E] 23) = w6 at *
  go_loopw [58] (fun a wr => CntRel 2 w6 a wr) (fun a _ => (2 - intOf a).toNat)
  case atStart => exact ⟨0, rfl, by omega, Below.refl _ _⟩
  case round =>
    obtain ⟨r, rfl, hr2, hBr⟩ := hrel
    by_cases hr : r < 2
    · obtain ⟨aN, aD, er, T, o, H1, H2, H3, H4, H5, H6, H7⟩ := HQ.out r hr
      have hoo : (o != o) = false := by cases o <;> rfl
      obtain ⟨t0, t1, t2, t3⟩ := HTab.out r hr
      replace t0 := cell_later hBr t0
      replace t1 := cell_later hBr t1
      replace t2 := cell_later hBr t2
      replace t3 := cell_later hBr t3
      generalize X0 r = x0 at *
      generalize X1 r = x1 at *
      generalize X2 r = x2 at *
      generalize X3 r = x3 at *
      have hz1 : (((r : Nat) : Int)).toNat = r := by omega
      have hz2 : ((r : Nat) : Int) < 2 := by omega
      have hz3 : (0 : Int) ≤ ((r : Nat) : Int) := by omega
      clear c_v_0 c_v_1 c_v_2 c_v_3 c_l_0 c_l_1 HTab HQ
      go_wp2_with fail
      have v0 : (wr.alloc (.cells #[.int .i64 x0, .int .i64 x1, .int .i64 x2, .int .i64 x3] 23)).cell? ⟨wr.heap.size, 0, none⟩ = some (.int .i64 x0) := by go_simp
      have v1 : (wr.alloc (.cells #[.int .i64 x0, .int .i64 x1, .int .i64 x2, .int .i64 x3] 23)).cell? ⟨wr.heap.size, 1, none⟩ = some (.int .i64 x1) := by go_simp
      have v2 : (wr.alloc (.cells #[.int .i64 x0, .int .i64 x1, .int .i64 x2, .int .i64 x3] 23)).cell? ⟨wr.heap.size, 2, none⟩ = some (.int .i64 x2) := by go_simp
      have v3 : (wr.alloc (.cells #[.int .i64 x0, .int .i64 x1, .int .i64 x2, .int .i64 x3] 23)).cell? ⟨wr.heap.size, 3, none⟩ = some (.int .i64 x3) := by go_simp
      replace hBr := alloc_below (o := .cells #[.int .i64 x0, .int .i64 x1, .int .i64 x2, .int .i64 x3] 23) hBr
      generalize wr.alloc (.cells #[.int .i64 x0, .int .i64 x1, .int .i64 x2, .int .i64 x3] 23) = wa at *
      generalize wr.heap.size = KX at *
      clear t0 t1 t2 t3
      refine (H1.out _ (hR.below (below_two hB5 hBr))).mono ?_
      rintro ed w7 ⟨rfl, hb⟩
      replace v0 := cell_later hb v0
      replace v1 := cell_later hb v1
      replace v2 := cell_later hb v2
      replace v3 := cell_later hb v3
      replace hBr := below_two hBr hb
      clear hb
      have z_v0 := World.block_lt_of_cell? _ _ v0
      simp only at z_v0
      go_wp2_with fail
      clear z_v0
      have a0 : (w7.alloc (.cells #[.int .i64 aN, .int .i64 aD] 25)).cell? ⟨w7.heap.size, 0, none⟩ = some (.int .i64 aN) := by go_simp
      have a1 : (w7.alloc (.cells #[.int .i64 aN, .int .i64 aD] 25)).cell? ⟨w7.heap.size, 1, none⟩ = some (.int .i64 aD) := by go_simp
      replace v0 := alloc_cell (o := .cells #[.int .i64 aN, .int .i64 aD] 25) v0
      replace v1 := alloc_cell (o := .cells #[.int .i64 aN, .int .i64 aD] 25) v1
      replace v2 := alloc_cell (o := .cells #[.int .i64 aN, .int .i64 aD] 25) v2
      replace v3 := alloc_cell (o := .cells #[.int .i64 aN, .int .i64 aD] 25) v3
      replace hBr := alloc_below (o := .cells #[.int .i64 aN, .int .i64 aD] 25) hBr
      generalize w7.alloc (.cells #[.int .i64 aN, .int .i64 aD] 25) = w8 at *
      generalize w7.heap.size = KA at *
      refine (H2.out _).mono ?_
      rintro ed w9 ⟨rfl, hb⟩
      replace v0 := cell_later hb v0
      replace v1 := cell_later hb v1
      replace v2 := cell_later hb v2
      replace v3 := cell_later hb v3
      replace a0 := cell_later hb a0
      replace a1 := cell_later hb a1
      replace hBr := below_two hBr hb
      clear hb
      have z_v0 := World.block_lt_of_cell? _ _ v0
      simp only at z_v0
      have z_a0 := World.block_lt_of_cell? _ _ a0
      simp only at z_a0
      go_wp2_with fail
      clear z_v0
      clear z_a0
      have b0 : (w9.alloc (.cells #[.int .i64 aN, .int .i64 aD] 25)).cell? ⟨w9.heap.size, 0, none⟩ = some (.int .i64 aN) := by go_simp
      have b1 : (w9.alloc (.cells #[.int .i64 aN, .int .i64 aD] 25)).cell? ⟨w9.heap.size, 1, none⟩ = some (.int .i64 aD) := by go_simp
      replace v0 := alloc_cell (o := .cells #[.int .i64 aN, .int .i64 aD] 25) v0
      replace v1 := alloc_cell (o := .cells #[.int .i64 aN, .int .i64 aD] 25) v1
      replace v2 := alloc_cell (o := .cells #[.int .i64 aN, .int .i64 aD] 25) v2
      replace v3 := alloc_cell (o := .cells #[.int .i64 aN, .int .i64 aD] 25) v3
      replace a0 := alloc_cell (o := .cells #[.int .i64 aN, .int .i64 aD] 25) a0
      replace a1 := alloc_cell (o := .cells #[.int .i64 aN, .int .i64 aD] 25) a1
      replace hBr := alloc_below (o := .cells #[.int .i64 aN, .int .i64 aD] 25) hBr
      generalize w9.alloc (.cells #[.int .i64 aN, .int .i64 aD] 25) = w10 at *
      generalize w9.heap.size = KB at *
      refine (H3.out _ (hR.below (below_two hB5 hBr))).mono ?_
      rintro ed w11 ⟨rfl, hb⟩
      replace v0 := cell_later hb v0
      replace v1 := cell_later hb v1
      replace v2 := cell_later hb v2
      replace v3 := cell_later hb v3
      replace a0 := cell_later hb a0
      replace a1 := cell_later hb a1
      replace b0 := cell_later hb b0
      replace b1 := cell_later hb b1
      replace hBr := below_two hBr hb
      clear hb
      have z_v0 := World.block_lt_of_cell? _ _ v0
      simp only at z_v0
      have z_a0 := World.block_lt_of_cell? _ _ a0
      simp only at z_a0
      have z_b0 := World.block_lt_of_cell? _ _ b0
      simp only at z_b0
      go_wp2_with fail
      clear z_v0
      clear z_a0
      clear z_b0
      refine (H4.out _).mono ?_
      rintro ed w12 ⟨rfl, hb⟩
      replace v0 := cell_later hb v0
      replace v1 := cell_later hb v1
      replace v2 := cell_later hb v2
      replace v3 := cell_later hb v3
      replace a0 := cell_later hb a0
      replace a1 := cell_later hb a1
      replace b0 := cell_later hb b0
      replace b1 := cell_later hb b1
      replace hBr := below_two hBr hb
      clear hb
      have z_v0 := World.block_lt_of_cell? _ _ v0
      simp only at z_v0
      have z_a0 := World.block_lt_of_cell? _ _ a0
      simp only at z_a0
      have z_b0 := World.block_lt_of_cell? _ _ b0
      simp only at z_b0
      go_wp2_with fail
      have hTT : (T == T) = true := by simp
      have g_v0 := fun dd os => cell_regrown v0 dd os
      have g_v1 := fun dd os => cell_regrown v1 dd os
      have g_v2 := fun dd os => cell_regrown v2 dd os
      have g_v3 := fun dd os => cell_regrown v3 dd os
      have g_a0 := fun dd os => cell_regrown a0 dd os
      have g_a1 := fun dd os => cell_regrown a1 dd os
      have g_b0 := fun dd os => cell_regrown b0 dd os
      have g_b1 := fun dd os => cell_regrown b1 dd os
      have q0 : Hid (∀ dd os, Calls Tryz.prog 19 #[vl x0 x1 x2 x3] (Go.Sort.grow (redrawn w12 dd) os) fun ed w_ => ed = .returned (.bool o) ∧ ∃ p : Regrown, w_ = Go.Sort.grow (redrawn w12 p.d) p.os) := Lib.hid (fun dd os => Calls.regrown_of (H5.out (Go.Sort.grow (redrawn w12 dd) os)))
      have q1 : Hid (∀ dd os, Calls Tryz.prog 20 #[vl x0 x1 x2 x3] (Go.Sort.grow (redrawn w12 dd) os) fun ed w_ => ed = .returned (.bool o) ∧ ∃ p : Regrown, w_ = Go.Sort.grow (redrawn w12 p.d) p.os) := Lib.hid (fun dd os => Calls.regrown_of (H6.out (Go.Sort.grow (redrawn w12 dd) os)))
      have q2 : Hid (∀ dd os, Calls Tryz.prog 21 #[rt aN aD] (Go.Sort.grow (redrawn w12 dd) os) fun ed w_ => ed = .returned (.bool true) ∧ ∃ p : Regrown, w_ = Go.Sort.grow (redrawn w12 p.d) p.os) := Lib.hid (fun dd os => Calls.regrown_of (H7.out (Go.Sort.grow (redrawn w12 dd) os) (hR.below (below_two (below_two hB5 hBr) (below_regrown w12 dd os)))))
      refine wp_region_quiet_below (by kernel_rfl) (by kernel_rfl) ?_
      repeat (go_big_quiet_step (first | (go_at_call 19; exact q0.out _ _) | (go_at_call 20; exact q1.out _ _) | (go_at_call 21; exact q2.out _ _)))
      refine wpQuiet_nil ?_
      intro _ hw'
      obtain ⟨⟨dq, osq⟩, hw''⟩ := hw'
      subst hw''
      clear g_v0 g_v1 g_v2 g_v3 g_a0 g_a1 g_b0 g_b1
      clear q0 q1 q2
      have hb_w13 := below_regrown w12 dq osq
      generalize Go.Sort.grow (redrawn w12 dq) osq = w13 at *
      go_wp2
      go_roundw
      case rel => exact ⟨r + 1, by go_num, by omega, below_two hBr hb_w13⟩
      case measure => simp [intOf]; omega
    · obtain rfl : r = 2 := by omega
      have l0 := cell_later hBr c_l_0
      have l1 := cell_later hBr c_l_1
      have hBW := below_two hB5 hBr
      clear c_v_0 c_v_1 c_v_2 c_v_3 c_l_0 c_l_1 HTab HQ hBr hB5 HRA HRB HV HF
      have zl := World.block_lt_of_cell? _ _ l0
      simp only at zl
      go_upto_region 19 with fail
      go_cut [23, 24] (fun p _ wx => AtB sN sD wr p wx)
      case first =>
        have RA : Hid (∀ u, Below (wr.alloc (.cells #[.int .i64 0, .int .i64 0] 25)).drew.heap.size (wr.alloc (.cells #[.int .i64 0, .int .i64 0] 25)).drew u → u.cell? ⟨wr.heap.size, 0, none⟩ = some (.int .i64 0) ∧ u.cell? ⟨wr.heap.size, 1, none⟩ = some (.int .i64 0) ∧ u.frozen? ⟨wr.heap.size, 0, none⟩ = false ∧ u.frozen? ⟨wr.heap.size, 1, none⟩ = false ∧ Below wr.heap.size wr u) := Lib.hid (fun u hq => by
          have e0 : (wr.alloc (.cells #[.int .i64 0, .int .i64 0] 25)).drew.cell? ⟨wr.heap.size, 0, none⟩ = some (.int .i64 0) := cell_drew (by go_simp)
          have e1 : (wr.alloc (.cells #[.int .i64 0, .int .i64 0] 25)).drew.cell? ⟨wr.heap.size, 1, none⟩ = some (.int .i64 0) := cell_drew (by go_simp)
          exact ⟨cell_later hq e0, cell_later hq e1, frozen_later hq e0 (frozen_drew (by go_simp)), frozen_later hq e1 (frozen_drew (by go_simp)), below_two (alloc_below (Below.refl _ _)).drew hq⟩)
        have RB : Hid (∀ u, Below wr.drew.heap.size wr.drew u → u.cell? ⟨w.heap.size + 1, 0, none⟩ = some (.int .i64 l) ∧ u.cell? ⟨w.heap.size + 1, 1, none⟩ = some (.int .i64 k) ∧ Below wr.heap.size wr u) := Lib.hid (fun u hq => ⟨cell_later hq (cell_drew l0), cell_later hq (cell_drew l1), below_two (Below.refl _ _).drew hq⟩)
        clear hgR hgV heR heV hnR hnV hsR hsV hR hBW HS0 HS1 HS2
        go_region_held3 (fun w' => w'.cell? ⟨w.heap.size + 1, 0, none⟩ = some (.int .i64 l) ∧ w'.cell? ⟨w.heap.size + 1, 1, none⟩ = some (.int .i64 k) ∧ Below wr.heap.size wr w')
          (((try go_split_ands); refine ⟨?_, ?_, ?_⟩ <;> first | with_reducible assumption | (with_reducible refine cell_later hq ?_; with_reducible assumption) | (with_reducible refine below_two ?_ hq; with_reducible assumption) | (with_reducible refine alloc_cell ?_; with_reducible assumption) | (with_reducible refine alloc_below ?_; with_reducible assumption) | (with_reducible refine set_far ?_ (set_far ?_ ?_); omega; omega; with_reducible assumption) | (with_reducible refine put2_below ?_ ?_; with_reducible assumption; omega) | with_reducible exact cell_drew l0 | with_reducible exact cell_drew l1 | with_reducible exact (Below.refl _ _).drew | with_reducible exact cell_drew (alloc_cell l0) | with_reducible exact cell_drew (alloc_cell l1) | with_reducible exact (alloc_below (Below.refl _ _)).drew))
          (first
            | (go_at_call_of 23 l; refine (pick_any l 4097 _ il (by decide) (by decide)).mono ?_; rintro ed wx ⟨rfl, rfl⟩; rw [HP1.out])
            | (go_at_call_of 23 k; refine (pick_any k 420 _ ik (by decide) (by decide)).mono ?_; rintro ed wx ⟨rfl, rfl⟩; rw [HP2.out])
            | (go_at_call 22; first
                | (with_reducible refine (refOf_any p1 u2 wr.drew i1 i2).mono ?_; rintro ed u5 ⟨rfl, hq⟩; rw [HO1.out.1, HO1.out.2.1, HO1.out.2.2]; obtain ⟨n_l, n_k, hb5⟩ := RB.out _ hq)
                | (with_reducible refine (refOf_any p1 u2 (wr.alloc (.cells #[.int .i64 0, .int .i64 0] 25)).drew i1 i2).mono ?_; rintro ed u5 ⟨rfl, hq⟩; rw [HO1.out.1, HO1.out.2.1, HO1.out.2.2]; obtain ⟨r_0, r_1, f_0, f_1, hb5⟩ := RA.out _ hq)))
        all_goals (first
          | (go_wp2_with fail; go_meet; case rel => exact ⟨_, rfl, (put2_of r_0 r_1).1, (put2_of r_0 r_1).2, put2_below hb5 (by omega)⟩)
          | (go_wp2_with fail; go_meet; case rel => exact ⟨_, rfl, by go_simp, by go_simp, alloc_below hb5⟩))
      case rest =>
        obtain ⟨A1, rfl, s0, s1, hBs⟩ := hcut
        replace l0 := cell_later hBs l0
        replace l1 := cell_later hBs l1
        replace hBW := below_two hBW hBs
        clear hBs zl
        go_wp2_with fail
        refine (pick_any l 600 _ il (by decide) (by decide)).mono ?_
        rintro ed wx2 ⟨rfl, rfl⟩
        rw [HP3.out]
        go_wp2_with fail
        refine (refOf_any p3 64 _ i3 i64').mono ?_
        rintro ed w20 ⟨rfl, hb⟩
        rw [HO2.out.1, HO2.out.2.1, HO2.out.2.2]
        replace l0 := cell_later hb l0
        replace l1 := cell_later hb l1
        replace s0 := cell_later hb s0
        replace s1 := cell_later hb s1
        replace hBW := below_two hBW hb
        clear hb
        have zl2 := World.block_lt_of_cell? _ _ l0
        have zs2 := World.block_lt_of_cell? _ _ s0
        simp only at zl2 zs2
        go_wp2_with fail
        clear zl2 zs2
        have g0 : (w20.alloc (.cells #[.int .i64 gN, .int .i64 gD] 25)).cell? ⟨w20.heap.size, 0, none⟩ = some (.int .i64 gN) := by go_simp
        have g1 : (w20.alloc (.cells #[.int .i64 gN, .int .i64 gD] 25)).cell? ⟨w20.heap.size, 1, none⟩ = some (.int .i64 gD) := by go_simp
        replace l0 := alloc_cell (o := .cells #[.int .i64 gN, .int .i64 gD] 25) l0
        replace l1 := alloc_cell (o := .cells #[.int .i64 gN, .int .i64 gD] 25) l1
        replace s0 := alloc_cell (o := .cells #[.int .i64 gN, .int .i64 gD] 25) s0
        replace s1 := alloc_cell (o := .cells #[.int .i64 gN, .int .i64 gD] 25) s1
        replace hBW := alloc_below (o := .cells #[.int .i64 gN, .int .i64 gD] 25) hBW
        generalize w20.alloc (.cells #[.int .i64 gN, .int .i64 gD] 25) = w21 at *
        generalize w20.heap.size = KG at *
        refine (HS0.out _ (hR.below hBW)).mono ?_
        rintro ed w22 ⟨rfl, hb⟩
        replace s0 := cell_later hb s0
        replace s1 := cell_later hb s1
        replace g0 := cell_later hb g0
        replace g1 := cell_later hb g1
        replace hBW := below_two hBW hb
        clear hb l0 l1
        go_wp2_with fail
        refine (HS1.out _ (hR.below hBW)).mono ?_
        rintro ed w23 ⟨rfl, hb⟩
        replace g0 := cell_later hb g0
        replace g1 := cell_later hb g1
        replace hBW := below_two hBW hb
        clear hb s0 s1
        go_wp2_with fail
        refine (HS2.out _ (hR.below hBW)).mono ?_
        rintro ed w24 ⟨rfl, hb⟩
        replace hBW := below_two hBW hb
        clear hb g0 g1
        go_wp2
        go_ret
        exact ⟨rfl, hBW⟩
end Go.Proofs.YtejiifkenanodaaGreatDoor
