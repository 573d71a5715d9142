/-
  The contract of the reference's Read.
-/
import Derived.Test.YtejiifkenanodaaGreatDoorValR
import Derived.Test.YtejiifkenanodaaGreatDoorRatR4
import Derived.Test.YtejiifkenanodaaGreatDoorValI
import Derived.OwnWalk
import Derived.Deep.DeepCutAuto
import Derived.Deep.CutBlock
namespace Go.Proofs.YtejiifkenanodaaGreatDoor
open Go.RowKit

/-- What is known of the two blocks of Read: its result's (R, all 0), and its value's (V). -/
structure RP (b d n e : Int) (R V : Nat) (w W : World) : Prop where
  r0 : W.cell? ⟨R, 0, none⟩ = some (.int .i64 0)
  g0 : W.frozen? ⟨R, 0, none⟩ = false
  r1 : W.cell? ⟨R, 1, none⟩ = some (.int .i64 0)
  g1 : W.frozen? ⟨R, 1, none⟩ = false
  r2 : W.cell? ⟨R, 2, none⟩ = some (.int .i64 0)
  g2 : W.frozen? ⟨R, 2, none⟩ = false
  r3 : W.cell? ⟨R, 3, none⟩ = some (.int .i64 0)
  g3 : W.frozen? ⟨R, 3, none⟩ = false
  c0 : W.cell? ⟨V, 0, none⟩ = some (.int .i64 b)
  f0 : W.frozen? ⟨V, 0, none⟩ = false
  c1 : W.cell? ⟨V, 1, none⟩ = some (.int .i64 d)
  f1 : W.frozen? ⟨V, 1, none⟩ = false
  c2 : W.cell? ⟨V, 2, none⟩ = some (.int .i64 n)
  f2 : W.frozen? ⟨V, 2, none⟩ = false
  c3 : W.cell? ⟨V, 3, none⟩ = some (.int .i64 e)
  f3 : W.frozen? ⟨V, 3, none⟩ = false
  hB : Below w.heap.size w W
theorem RP.later {b d n e : Int} {R V : Nat} {w W W' : World} (h : RP b d n e R V w W) (hb : Below W.heap.size W W') : RP b d n e R V w W' :=
  ⟨cell_later hb h.r0, frozen_later hb h.r0 h.g0, cell_later hb h.r1, frozen_later hb h.r1 h.g1, cell_later hb h.r2, frozen_later hb h.r2 h.g2, cell_later hb h.r3, frozen_later hb h.r3 h.g3, cell_later hb h.c0, frozen_later hb h.c0 h.f0, cell_later hb h.c1, frozen_later hb h.c1 h.f1, cell_later hb h.c2, frozen_later hb h.c2 h.f2, cell_later hb h.c3, frozen_later hb h.c3 h.f3, below_two h.hB hb⟩
theorem RP.set0 {b d n e : Int} {R V : Nat} {w W : World} (h : RP b d n e R V w W) (x : Int) (hR : R ≠ V) (hV : w.heap.size ≤ V) : RP x d n e R V w (W.setCell ⟨V, 0, none⟩ (.int .i64 x)) :=
  ⟨set_far hR h.r0, set_frozen h.g0, set_far hR h.r1, set_frozen h.g1, set_far hR h.r2, set_frozen h.g2, set_far hR h.r3, set_frozen h.g3, World.cell?_setCell_same _ _ _ h.c0, set_frozen h.f0, set_beside (by decide) h.c1, set_frozen h.f1, set_beside (by decide) h.c2, set_frozen h.f2, set_beside (by decide) h.c3, set_frozen h.f3, set1_below h.hB hV⟩
theorem RP.set1 {b d n e : Int} {R V : Nat} {w W : World} (h : RP b d n e R V w W) (x : Int) (hR : R ≠ V) (hV : w.heap.size ≤ V) : RP b x n e R V w (W.setCell ⟨V, 1, none⟩ (.int .i64 x)) :=
  ⟨set_far hR h.r0, set_frozen h.g0, set_far hR h.r1, set_frozen h.g1, set_far hR h.r2, set_frozen h.g2, set_far hR h.r3, set_frozen h.g3, set_beside (by decide) h.c0, set_frozen h.f0, World.cell?_setCell_same _ _ _ h.c1, set_frozen h.f1, set_beside (by decide) h.c2, set_frozen h.f2, set_beside (by decide) h.c3, set_frozen h.f3, set1_below h.hB hV⟩
theorem RP.set2 {b d n e : Int} {R V : Nat} {w W : World} (h : RP b d n e R V w W) (x : Int) (hR : R ≠ V) (hV : w.heap.size ≤ V) : RP b d x e R V w (W.setCell ⟨V, 2, none⟩ (.int .i64 x)) :=
  ⟨set_far hR h.r0, set_frozen h.g0, set_far hR h.r1, set_frozen h.g1, set_far hR h.r2, set_frozen h.g2, set_far hR h.r3, set_frozen h.g3, set_beside (by decide) h.c0, set_frozen h.f0, set_beside (by decide) h.c1, set_frozen h.f1, World.cell?_setCell_same _ _ _ h.c2, set_frozen h.f2, set_beside (by decide) h.c3, set_frozen h.f3, set1_below h.hB hV⟩
theorem RP.set3 {b d n e : Int} {R V : Nat} {w W : World} (h : RP b d n e R V w W) (x : Int) (hR : R ≠ V) (hV : w.heap.size ≤ V) : RP b d n x R V w (W.setCell ⟨V, 3, none⟩ (.int .i64 x)) :=
  ⟨set_far hR h.r0, set_frozen h.g0, set_far hR h.r1, set_frozen h.g1, set_far hR h.r2, set_frozen h.g2, set_far hR h.r3, set_frozen h.g3, set_beside (by decide) h.c0, set_frozen h.f0, set_beside (by decide) h.c1, set_frozen h.f1, set_beside (by decide) h.c2, set_frozen h.f2, World.cell?_setCell_same _ _ _ h.c3, set_frozen h.f3, set1_below h.hB hV⟩

/-- The second loop: the base. -/
def RdB (B D : Nat) (R V : Nat) (w : World) (wr : World) : Prop := ∃ k : Nat, k ≤ B ∧ Hid (RP k D 0 0 R V w wr)
def baseOf (V : Nat) (wr : World) : Nat := match wr.cell? ⟨V, 0, none⟩ with | some (.int _ n) => n.toNat | _ => 0
def szOf (a : Value) : Nat := match a with | .string t => t.size | _ => 0
/-- The first loop: the dots go, one by one. -/
def RdA (q : List UInt8) (D : Nat) (R V : Nat) (w : World) (a : Value) (wr : World) : Prop :=
  ∃ (k : Nat) (T : ByteArray), a = .string T ∧ k ≤ D ∧ Hid (T = ⟨(q ++ List.replicate (D - k) 46).toArray⟩) ∧ Hid (RP 0 k 0 0 R V w wr)
theorem dot_last (q : List UInt8) (m : Nat) {T : ByteArray} (h : T = ⟨(q ++ List.replicate (m + 1) 46).toArray⟩) : T.size = q.length + m + 1 ∧ (∀ hk : q.length + m < T.size, T[q.length + m] = 46) ∧ T.extract 0 (q.length + m) = ⟨(q ++ List.replicate m 46).toArray⟩ := by
  subst h
  refine ⟨by show (q ++ List.replicate (m + 1) 46).length = _; simp; omega, fun hk => ?_, ?_⟩
  · rw [bytes_at _ _ hk (by simp)]
    rw [List.getElem_append_right (by omega)]
    simp
  · apply ByteArray.ext
    apply Array.ext'
    rw [Lib.extract_data]
    simp only [List.drop_zero, Nat.sub_zero]
    rw [List.take_append, List.take_of_length_le (by omega)]
    simp

set_option maxRecDepth 100000 in
set_option maxHeartbeats 4000000 in
theorem vrefRead_yes (s : ByteArray) (w : World) (q b : List UInt8) (D : Nat) (f : List UInt8) (HC : Hid (∀ w, Calls Tryz.prog 37 #[.string s, .int .u8 42] w fun e w' => e = .returned (.tuple #[.string ⟨f.toArray⟩, .string ⟨b.toArray⟩, .bool false]) ∧ Below w.heap.size w w')) (HF : Hid (f = q ++ List.replicate D 46)) (lf : q.length + D ≤ 30) (HL : Hid (∀ M (h : q.length = M + 1), ((((⟨q.toArray⟩ : ByteArray)[M]'(by show M < q.length; omega)).toNat : Int) == 46) = false)) (p : Int) (HN : Hid (∀ w, Calls Tryz.prog 38 #[.string ⟨q.toArray⟩] w fun e w' => e = .returned (.tuple #[.int .i64 p, .bool true]) ∧ Below w.heap.size w w')) (B : Nat) (HB : Hid (∀ j : Nat, j < B → j < 6 ∧ Val.bt (j : Int) < p)) (HE6 : Hid (B < 6 → ¬ Val.bt (B : Int) < p)) (X : List UInt8) (HX : Hid (Val.txtE B D 0 0 = X ∧ Val.lenE B D 0 0 = 0)) (hl : (X == s.toList) = true) :
    Calls Tryz.prog 13 #[.string s] w fun ed w' => ed = .returned (.tuple #[vl (B : Int) (D : Int) 0 0, .int .i64 0]) ∧ Below w.heap.size w w' := by
  have hB0 : Below w.heap.size w w := Below.refl _ _
  go_enter Tryz.func13, Tryz.ntmps13
  go_wp2_with fail
  refine (HC.out _).mono ?_
  rintro e w1 ⟨rfl, hb1⟩
  have hs1 : Below w.heap.size w w1 := Below.trans (by repeat (first | exact Below.refl _ _ | refine Below.alloc ?_ (by simp <;> omega) _)) (hb1.mono (by simp <;> omega))
  have c_r_0 : w1.cell? ⟨w.heap.size, 0, none⟩ = some (.int .i64 0) := (hb1.cell (by simp <;> omega)).trans (by go_simp)
  have f_r_0 : w1.frozen? ⟨w.heap.size, 0, none⟩ = false := (hb1.frozen (by simp <;> omega)).trans (by go_simp)
  have c_r_1 : w1.cell? ⟨w.heap.size, 1, none⟩ = some (.int .i64 0) := (hb1.cell (by simp <;> omega)).trans (by go_simp)
  have f_r_1 : w1.frozen? ⟨w.heap.size, 1, none⟩ = false := (hb1.frozen (by simp <;> omega)).trans (by go_simp)
  have c_r_2 : w1.cell? ⟨w.heap.size, 2, none⟩ = some (.int .i64 0) := (hb1.cell (by simp <;> omega)).trans (by go_simp)
  have f_r_2 : w1.frozen? ⟨w.heap.size, 2, none⟩ = false := (hb1.frozen (by simp <;> omega)).trans (by go_simp)
  have c_r_3 : w1.cell? ⟨w.heap.size, 3, none⟩ = some (.int .i64 0) := (hb1.cell (by simp <;> omega)).trans (by go_simp)
  have f_r_3 : w1.frozen? ⟨w.heap.size, 3, none⟩ = false := (hb1.frozen (by simp <;> omega)).trans (by go_simp)
  have z_r := World.block_lt_of_cell? _ _ c_r_0
  have hB1 := below_two hB0 hs1
  clear hB0 hs1 hb1
  have hsz := World.block_lt_of_cell? _ _ c_r_0
  simp only at hsz
  go_upto_block 0 with fail
  have hs2 : Below w1.heap.size w1 (w1.alloc (.cells #[.int .i64 0, .int .i64 0, .int .i64 0, .int .i64 0] 23)) := by repeat (first | exact Below.refl _ _ | refine Below.alloc ?_ (by simp <;> omega) _)
  replace f_r_0 := frozen_later hs2 c_r_0 f_r_0
  replace c_r_0 := cell_later hs2 c_r_0
  replace f_r_1 := frozen_later hs2 c_r_1 f_r_1
  replace c_r_1 := cell_later hs2 c_r_1
  replace f_r_2 := frozen_later hs2 c_r_2 f_r_2
  replace c_r_2 := cell_later hs2 c_r_2
  replace f_r_3 := frozen_later hs2 c_r_3 f_r_3
  replace c_r_3 := cell_later hs2 c_r_3
  have c_v_0 : (w1.alloc (.cells #[.int .i64 0, .int .i64 0, .int .i64 0, .int .i64 0] 23)).cell? ⟨w1.heap.size, 0, none⟩ = some (.int .i64 0) := by go_simp
  have f_v_0 : (w1.alloc (.cells #[.int .i64 0, .int .i64 0, .int .i64 0, .int .i64 0] 23)).frozen? ⟨w1.heap.size, 0, none⟩ = false := by go_simp
  have c_v_1 : (w1.alloc (.cells #[.int .i64 0, .int .i64 0, .int .i64 0, .int .i64 0] 23)).cell? ⟨w1.heap.size, 1, none⟩ = some (.int .i64 0) := by go_simp
  have f_v_1 : (w1.alloc (.cells #[.int .i64 0, .int .i64 0, .int .i64 0, .int .i64 0] 23)).frozen? ⟨w1.heap.size, 1, none⟩ = false := by go_simp
  have c_v_2 : (w1.alloc (.cells #[.int .i64 0, .int .i64 0, .int .i64 0, .int .i64 0] 23)).cell? ⟨w1.heap.size, 2, none⟩ = some (.int .i64 0) := by go_simp
  have f_v_2 : (w1.alloc (.cells #[.int .i64 0, .int .i64 0, .int .i64 0, .int .i64 0] 23)).frozen? ⟨w1.heap.size, 2, none⟩ = false := by go_simp
  have c_v_3 : (w1.alloc (.cells #[.int .i64 0, .int .i64 0, .int .i64 0, .int .i64 0] 23)).cell? ⟨w1.heap.size, 3, none⟩ = some (.int .i64 0) := by go_simp
  have f_v_3 : (w1.alloc (.cells #[.int .i64 0, .int .i64 0, .int .i64 0, .int .i64 0] 23)).frozen? ⟨w1.heap.size, 3, none⟩ = false := by go_simp
  have hB2 := below_two hB1 hs2
  clear hB1 hs2
  have y2_r := z_r
  generalize (w1.alloc (.cells #[.int .i64 0, .int .i64 0, .int .i64 0, .int .i64 0] 23)) = w2 at *
  clear z_r
  have z_r := World.block_lt_of_cell? _ _ c_r_0
  have z_v := World.block_lt_of_cell? _ _ c_v_0
  have HRP : Hid (RP 0 0 0 0 w.heap.size w1.heap.size w w2) := Lib.hid ⟨c_r_0, f_r_0, c_r_1, f_r_1, c_r_2, f_r_2, c_r_3, f_r_3, c_v_0, f_v_0, c_v_1, f_v_1, c_v_2, f_v_2, c_v_3, f_v_3, hB2⟩
  clear c_r_0 f_r_0 c_r_1 f_r_1 c_r_2 f_r_2 c_r_3 f_r_3 c_v_0 f_v_0 c_v_1 f_v_1 c_v_2 f_v_2 c_v_3 f_v_3 z_r z_v hB2
  go_cut [4] (fun a wr => a = .string ⟨q.toArray⟩ ∧ Hid (RP 0 D 0 0 w.heap.size w1.heap.size w wr))
  case first =>
    go_wp2_with fail
    go_loopw [4] (fun a wr => RdA q D w.heap.size w1.heap.size w a wr) (fun a _ => szOf a)
    case atStart => exact ⟨0, _, rfl, by omega, Lib.hid (by rw [HF.out]; rfl), HRP⟩
    case round =>
      clear HRP
      obtain ⟨k, T, rfl, hk, HT, HRP⟩ := hrel
      by_cases hlt : k < D
      · obtain ⟨m, rfl⟩ : ∃ m, D = k + (m + 1) := ⟨D - k - 1, by omega⟩
        rw [show k + (m + 1) - k = m + 1 by omega] at HT
        obtain ⟨t1, t2, t3⟩ := dot_last q m HT.out
        have HE := Lib.hid t3
        have HS : Hid (T.size = q.length + m + 1) := Lib.hid t1
        have t4 := t2 (by omega)
        obtain ⟨r0, g0, r1, g1, r2, g2, r3, g3, c0, f0, c1, f1, c2, f2, c3, f3, hB⟩ := HRP.out
        go_wp2_with fail
        refine ⟨⟨k + 1, _, rfl, by omega, Lib.hid ?_, Lib.hid ?_⟩, ?_⟩
        · rw [HE.out, show k + (m + 1) - (k + 1) = m by omega]
        · have := HRP.out.set1 ((k : Int) + 1) (by omega) (by omega)
          rw [show (((k + 1 : Nat)) : Int) = (k : Int) + 1 by omega]
          exact this
        · rw [HE.out]
          show (q ++ List.replicate m 46).length < T.size
          rw [HS.out]; simp
      · obtain rfl : k = D := by omega
        rw [Nat.sub_self, List.replicate_zero, List.append_nil] at HT
        obtain ⟨r0, g0, r1, g1, r2, g2, r3, g3, c0, f0, c1, f1, c2, f2, c3, f3, hB⟩ := HRP.out
        have hz : T.size = q.length := by rw [HT.out]; rfl
        by_cases hq : q.length = 0
        · have hz0 : T.size = 0 := by omega
          go_wp2_with fail
          go_meet
          case rel => exact ⟨by rw [HT.out], HRP⟩
        · obtain ⟨M, hM⟩ : ∃ M, q.length = M + 1 := ⟨q.length - 1, by omega⟩
          have hz1 : T.size = M + 1 := by omega
          have hl : (((T[M]'(by omega)).toNat : Int) == 46) = false := by
            have := HL.out M hM
            have e : ∀ (T' : ByteArray) (h : T = T') (h1 : M < T.size) (h2 : M < T'.size), T[M] = T'[M] := fun T' h h1 h2 => by subst h; rfl
            rw [e _ HT.out (by omega) (by show M < q.length; omega)]
            exact this
          go_wp2_with fail
          go_meet
          case rel => exact ⟨by rw [HT.out], HRP⟩
  case rest =>
    clear HRP HF HL
    obtain ⟨rfl, HRP⟩ := hcut
    go_wp2_with fail
    refine (HN.out _).mono ?_
    rintro ed w5 ⟨rfl, hb⟩
    replace HRP := Lib.hid (HRP.out.later hb)
    clear hb
    go_upto_block 2 with fail
    go_cut [] (fun wr => Hid (RP B D 0 0 w.heap.size w1.heap.size w wr))
    case first =>
      go_wp2_with fail
      go_loopw [] (fun wr => RdB B D w.heap.size w1.heap.size w wr) (fun wr => 6 - baseOf w1.heap.size wr)
      case atStart => exact ⟨0, by omega, HRP⟩
      case round =>
        clear HRP
        obtain ⟨j, hj, HRP⟩ := hrel
        obtain ⟨r0, g0, r1, g1, r2, g2, r3, g3, c0, f0, c1, f1, c2, f2, c3, f3, hB⟩ := HRP.out
        by_cases hj6 : j < 6
        · have j6' : (j : Int) < 6 := by omega
          have HPW : Hid (∀ w, Calls Tryz.prog 39 #[.int .i64 (j : Int)] w fun ed w' => ed = .returned (.int .i64 (Val.bt j)) ∧ w = w') := Lib.hid (fun w => power_any (by omega) (by omega) w)
          by_cases hjB : j < B
          · have jp := (HB.out j hjB).2
            generalize Val.bt (j : Int) = P at *
            go_wp2_with fail
            refine (HPW.out _).mono ?_
            rintro ed wx ⟨rfl, rfl⟩
            go_wp2_with fail
            refine ⟨⟨j + 1, by omega, Lib.hid ?_⟩, ?_⟩
            · have := HRP.out.set0 ((j : Int) + 1) (by omega) (by omega)
              rw [show (((j + 1 : Nat)) : Int) = (j : Int) + 1 by omega]
              exact this
            · have := (HRP.out.set0 ((j : Int) + 1) (by omega) (by omega)).c0
              unfold baseOf
              rw [this, c0]
              show 6 - ((j : Int) + 1).toNat < 6 - (j : Int).toNat
              omega
          · obtain rfl : j = B := by omega
            have jp := HE6.out hj6
            generalize Val.bt (j : Int) = P at *
            go_wp2_with fail
            refine (HPW.out _).mono ?_
            rintro ed wx ⟨rfl, rfl⟩
            go_wp2_with fail
            go_meet
            case rel => exact HRP
        · obtain rfl : j = B := by
            rcases Nat.lt_or_ge j B with h | h
            · have := (HB.out j h).1; omega
            · omega
          have j6' : ¬ (j : Int) < 6 := by omega
          go_wp2_with fail
          go_meet
          case rel => exact HRP
    case rest =>
      clear HRP
      have HRP := hcut
      obtain ⟨r0, g0, r1, g1, r2, g2, r3, g3, c0, f0, c1, f1, c2, f2, c3, f3, hB⟩ := HRP.out
      go_wp2_with fail
      refine (vrefText_any _ _ _ _ _).mono ?_
      rintro ed w6 ⟨rfl, hb⟩
      rw [HX.out.1, HX.out.2]
      clear r0 g0 r1 g1 r2 g2 r3 g3 c0 f0 c1 f1 c2 f2 c3 f3 hB
      have HRQ := Lib.hid (HRP.out.later hb)
      clear hb HRP hcut
      obtain ⟨r0, g0, r1, g1, r2, g2, r3, g3, c0, f0, c1, f1, c2, f2, c3, f3, hB⟩ := HRQ.out
      go_wp2_with fail
      obtain ⟨m0, m1, m2, m3⟩ := put4_of (x := .int .i64 (B : Int)) (y := .int .i64 (D : Int)) (z := .int .i64 0) (u := .int .i64 0) r0 r1 r2 r3
      go_wp2_with fail
      exact bodyPost_ret (v := .tuple #[vl (B : Int) (D : Int) 0 0, .int .i64 0]) (by simp [results, Tryz.results13, go_sem, m0, m1, m2, m3]) rfl ⟨rfl, put4_below hB (by omega)⟩

set_option maxRecDepth 100000 in
set_option maxHeartbeats 4000000 in
theorem vrefRead_no1 (s : ByteArray) (w : World) (q b : List UInt8) (D : Nat) (f : List UInt8) (HC : Hid (∀ w, Calls Tryz.prog 37 #[.string s, .int .u8 42] w fun e w' => e = .returned (.tuple #[.string ⟨f.toArray⟩, .string ⟨b.toArray⟩, .bool false]) ∧ Below w.heap.size w w')) (HF : Hid (f = q ++ List.replicate D 46)) (lf : q.length + D ≤ 30) (HL : Hid (∀ M (h : q.length = M + 1), ((((⟨q.toArray⟩ : ByteArray)[M]'(by show M < q.length; omega)).toNat : Int) == 46) = false)) (p : Int) (HN : Hid (∀ w, Calls Tryz.prog 38 #[.string ⟨q.toArray⟩] w fun e w' => e = .returned (.tuple #[.int .i64 p, .bool false]) ∧ Below w.heap.size w w')) (B : Nat) (HB : Hid (∀ j : Nat, j < B → j < 6 ∧ Val.bt (j : Int) < p)) (HE6 : Hid (B < 6 → ¬ Val.bt (B : Int) < p)) (X : List UInt8) (E : Int) (HX : Hid (Val.txtE B D 0 0 = X ∧ Val.lenE B D 0 0 = E)) :
    Calls Tryz.prog 13 #[.string s] w fun ed w' => ed = .returned (.tuple #[vl 0 0 0 0, .int .i64 12]) ∧ Below w.heap.size w w' := by
  have hB0 : Below w.heap.size w w := Below.refl _ _
  go_enter Tryz.func13, Tryz.ntmps13
  go_wp2_with fail
  refine (HC.out _).mono ?_
  rintro e w1 ⟨rfl, hb1⟩
  have hs1 : Below w.heap.size w w1 := Below.trans (by repeat (first | exact Below.refl _ _ | refine Below.alloc ?_ (by simp <;> omega) _)) (hb1.mono (by simp <;> omega))
  have c_r_0 : w1.cell? ⟨w.heap.size, 0, none⟩ = some (.int .i64 0) := (hb1.cell (by simp <;> omega)).trans (by go_simp)
  have f_r_0 : w1.frozen? ⟨w.heap.size, 0, none⟩ = false := (hb1.frozen (by simp <;> omega)).trans (by go_simp)
  have c_r_1 : w1.cell? ⟨w.heap.size, 1, none⟩ = some (.int .i64 0) := (hb1.cell (by simp <;> omega)).trans (by go_simp)
  have f_r_1 : w1.frozen? ⟨w.heap.size, 1, none⟩ = false := (hb1.frozen (by simp <;> omega)).trans (by go_simp)
  have c_r_2 : w1.cell? ⟨w.heap.size, 2, none⟩ = some (.int .i64 0) := (hb1.cell (by simp <;> omega)).trans (by go_simp)
  have f_r_2 : w1.frozen? ⟨w.heap.size, 2, none⟩ = false := (hb1.frozen (by simp <;> omega)).trans (by go_simp)
  have c_r_3 : w1.cell? ⟨w.heap.size, 3, none⟩ = some (.int .i64 0) := (hb1.cell (by simp <;> omega)).trans (by go_simp)
  have f_r_3 : w1.frozen? ⟨w.heap.size, 3, none⟩ = false := (hb1.frozen (by simp <;> omega)).trans (by go_simp)
  have z_r := World.block_lt_of_cell? _ _ c_r_0
  have hB1 := below_two hB0 hs1
  clear hB0 hs1 hb1
  have hsz := World.block_lt_of_cell? _ _ c_r_0
  simp only at hsz
  go_upto_block 0 with fail
  have hs2 : Below w1.heap.size w1 (w1.alloc (.cells #[.int .i64 0, .int .i64 0, .int .i64 0, .int .i64 0] 23)) := by repeat (first | exact Below.refl _ _ | refine Below.alloc ?_ (by simp <;> omega) _)
  replace f_r_0 := frozen_later hs2 c_r_0 f_r_0
  replace c_r_0 := cell_later hs2 c_r_0
  replace f_r_1 := frozen_later hs2 c_r_1 f_r_1
  replace c_r_1 := cell_later hs2 c_r_1
  replace f_r_2 := frozen_later hs2 c_r_2 f_r_2
  replace c_r_2 := cell_later hs2 c_r_2
  replace f_r_3 := frozen_later hs2 c_r_3 f_r_3
  replace c_r_3 := cell_later hs2 c_r_3
  have c_v_0 : (w1.alloc (.cells #[.int .i64 0, .int .i64 0, .int .i64 0, .int .i64 0] 23)).cell? ⟨w1.heap.size, 0, none⟩ = some (.int .i64 0) := by go_simp
  have f_v_0 : (w1.alloc (.cells #[.int .i64 0, .int .i64 0, .int .i64 0, .int .i64 0] 23)).frozen? ⟨w1.heap.size, 0, none⟩ = false := by go_simp
  have c_v_1 : (w1.alloc (.cells #[.int .i64 0, .int .i64 0, .int .i64 0, .int .i64 0] 23)).cell? ⟨w1.heap.size, 1, none⟩ = some (.int .i64 0) := by go_simp
  have f_v_1 : (w1.alloc (.cells #[.int .i64 0, .int .i64 0, .int .i64 0, .int .i64 0] 23)).frozen? ⟨w1.heap.size, 1, none⟩ = false := by go_simp
  have c_v_2 : (w1.alloc (.cells #[.int .i64 0, .int .i64 0, .int .i64 0, .int .i64 0] 23)).cell? ⟨w1.heap.size, 2, none⟩ = some (.int .i64 0) := by go_simp
  have f_v_2 : (w1.alloc (.cells #[.int .i64 0, .int .i64 0, .int .i64 0, .int .i64 0] 23)).frozen? ⟨w1.heap.size, 2, none⟩ = false := by go_simp
  have c_v_3 : (w1.alloc (.cells #[.int .i64 0, .int .i64 0, .int .i64 0, .int .i64 0] 23)).cell? ⟨w1.heap.size, 3, none⟩ = some (.int .i64 0) := by go_simp
  have f_v_3 : (w1.alloc (.cells #[.int .i64 0, .int .i64 0, .int .i64 0, .int .i64 0] 23)).frozen? ⟨w1.heap.size, 3, none⟩ = false := by go_simp
  have hB2 := below_two hB1 hs2
  clear hB1 hs2
  have y2_r := z_r
  generalize (w1.alloc (.cells #[.int .i64 0, .int .i64 0, .int .i64 0, .int .i64 0] 23)) = w2 at *
  clear z_r
  have z_r := World.block_lt_of_cell? _ _ c_r_0
  have z_v := World.block_lt_of_cell? _ _ c_v_0
  have HRP : Hid (RP 0 0 0 0 w.heap.size w1.heap.size w w2) := Lib.hid ⟨c_r_0, f_r_0, c_r_1, f_r_1, c_r_2, f_r_2, c_r_3, f_r_3, c_v_0, f_v_0, c_v_1, f_v_1, c_v_2, f_v_2, c_v_3, f_v_3, hB2⟩
  clear c_r_0 f_r_0 c_r_1 f_r_1 c_r_2 f_r_2 c_r_3 f_r_3 c_v_0 f_v_0 c_v_1 f_v_1 c_v_2 f_v_2 c_v_3 f_v_3 z_r z_v hB2
  go_cut [4] (fun a wr => a = .string ⟨q.toArray⟩ ∧ Hid (RP 0 D 0 0 w.heap.size w1.heap.size w wr))
  case first =>
    go_wp2_with fail
    go_loopw [4] (fun a wr => RdA q D w.heap.size w1.heap.size w a wr) (fun a _ => szOf a)
    case atStart => exact ⟨0, _, rfl, by omega, Lib.hid (by rw [HF.out]; rfl), HRP⟩
    case round =>
      clear HRP
      obtain ⟨k, T, rfl, hk, HT, HRP⟩ := hrel
      by_cases hlt : k < D
      · obtain ⟨m, rfl⟩ : ∃ m, D = k + (m + 1) := ⟨D - k - 1, by omega⟩
        rw [show k + (m + 1) - k = m + 1 by omega] at HT
        obtain ⟨t1, t2, t3⟩ := dot_last q m HT.out
        have HE := Lib.hid t3
        have HS : Hid (T.size = q.length + m + 1) := Lib.hid t1
        have t4 := t2 (by omega)
        obtain ⟨r0, g0, r1, g1, r2, g2, r3, g3, c0, f0, c1, f1, c2, f2, c3, f3, hB⟩ := HRP.out
        go_wp2_with fail
        refine ⟨⟨k + 1, _, rfl, by omega, Lib.hid ?_, Lib.hid ?_⟩, ?_⟩
        · rw [HE.out, show k + (m + 1) - (k + 1) = m by omega]
        · have := HRP.out.set1 ((k : Int) + 1) (by omega) (by omega)
          rw [show (((k + 1 : Nat)) : Int) = (k : Int) + 1 by omega]
          exact this
        · rw [HE.out]
          show (q ++ List.replicate m 46).length < T.size
          rw [HS.out]; simp
      · obtain rfl : k = D := by omega
        rw [Nat.sub_self, List.replicate_zero, List.append_nil] at HT
        obtain ⟨r0, g0, r1, g1, r2, g2, r3, g3, c0, f0, c1, f1, c2, f2, c3, f3, hB⟩ := HRP.out
        have hz : T.size = q.length := by rw [HT.out]; rfl
        by_cases hq : q.length = 0
        · have hz0 : T.size = 0 := by omega
          go_wp2_with fail
          go_meet
          case rel => exact ⟨by rw [HT.out], HRP⟩
        · obtain ⟨M, hM⟩ : ∃ M, q.length = M + 1 := ⟨q.length - 1, by omega⟩
          have hz1 : T.size = M + 1 := by omega
          have hl : (((T[M]'(by omega)).toNat : Int) == 46) = false := by
            have := HL.out M hM
            have e : ∀ (T' : ByteArray) (h : T = T') (h1 : M < T.size) (h2 : M < T'.size), T[M] = T'[M] := fun T' h h1 h2 => by subst h; rfl
            rw [e _ HT.out (by omega) (by show M < q.length; omega)]
            exact this
          go_wp2_with fail
          go_meet
          case rel => exact ⟨by rw [HT.out], HRP⟩
  case rest =>
    clear HRP HF HL
    obtain ⟨rfl, HRP⟩ := hcut
    go_wp2_with fail
    refine (HN.out _).mono ?_
    rintro ed w5 ⟨rfl, hb⟩
    replace HRP := Lib.hid (HRP.out.later hb)
    clear hb
    go_upto_block 2 with fail
    go_cut [] (fun wr => Hid (RP B D 0 0 w.heap.size w1.heap.size w wr))
    case first =>
      go_wp2_with fail
      go_loopw [] (fun wr => RdB B D w.heap.size w1.heap.size w wr) (fun wr => 6 - baseOf w1.heap.size wr)
      case atStart => exact ⟨0, by omega, HRP⟩
      case round =>
        clear HRP
        obtain ⟨j, hj, HRP⟩ := hrel
        obtain ⟨r0, g0, r1, g1, r2, g2, r3, g3, c0, f0, c1, f1, c2, f2, c3, f3, hB⟩ := HRP.out
        by_cases hj6 : j < 6
        · have j6' : (j : Int) < 6 := by omega
          have HPW : Hid (∀ w, Calls Tryz.prog 39 #[.int .i64 (j : Int)] w fun ed w' => ed = .returned (.int .i64 (Val.bt j)) ∧ w = w') := Lib.hid (fun w => power_any (by omega) (by omega) w)
          by_cases hjB : j < B
          · have jp := (HB.out j hjB).2
            generalize Val.bt (j : Int) = P at *
            go_wp2_with fail
            refine (HPW.out _).mono ?_
            rintro ed wx ⟨rfl, rfl⟩
            go_wp2_with fail
            refine ⟨⟨j + 1, by omega, Lib.hid ?_⟩, ?_⟩
            · have := HRP.out.set0 ((j : Int) + 1) (by omega) (by omega)
              rw [show (((j + 1 : Nat)) : Int) = (j : Int) + 1 by omega]
              exact this
            · have := (HRP.out.set0 ((j : Int) + 1) (by omega) (by omega)).c0
              unfold baseOf
              rw [this, c0]
              show 6 - ((j : Int) + 1).toNat < 6 - (j : Int).toNat
              omega
          · obtain rfl : j = B := by omega
            have jp := HE6.out hj6
            generalize Val.bt (j : Int) = P at *
            go_wp2_with fail
            refine (HPW.out _).mono ?_
            rintro ed wx ⟨rfl, rfl⟩
            go_wp2_with fail
            go_meet
            case rel => exact HRP
        · obtain rfl : j = B := by
            rcases Nat.lt_or_ge j B with h | h
            · have := (HB.out j h).1; omega
            · omega
          have j6' : ¬ (j : Int) < 6 := by omega
          go_wp2_with fail
          go_meet
          case rel => exact HRP
    case rest =>
      clear HRP
      have HRP := hcut
      obtain ⟨r0, g0, r1, g1, r2, g2, r3, g3, c0, f0, c1, f1, c2, f2, c3, f3, hB⟩ := HRP.out
      go_wp2_with fail
      refine (vrefText_any _ _ _ _ _).mono ?_
      rintro ed w6 ⟨rfl, hb⟩
      rw [HX.out.1, HX.out.2]
      clear r0 g0 r1 g1 r2 g2 r3 g3 c0 f0 c1 f1 c2 f2 c3 f3 hB
      have HRQ := Lib.hid (HRP.out.later hb)
      clear hb HRP hcut
      obtain ⟨r0, g0, r1, g1, r2, g2, r3, g3, c0, f0, c1, f1, c2, f2, c3, f3, hB⟩ := HRQ.out
      go_wp2_with fail
      obtain ⟨m0, m1, m2, m3⟩ := put4_of (x := .int .i64 0) (y := .int .i64 0) (z := .int .i64 0) (u := .int .i64 0) r0 r1 r2 r3
      go_wp2_with fail
      exact bodyPost_ret (v := .tuple #[vl 0 0 0 0, .int .i64 12]) (by simp [results, Tryz.results13, go_sem, m0, m1, m2, m3]) rfl ⟨rfl, put4_below hB (by omega)⟩

set_option maxRecDepth 100000 in
set_option maxHeartbeats 4000000 in
theorem vrefRead_no2 (s : ByteArray) (w : World) (q b : List UInt8) (D : Nat) (f : List UInt8) (HC : Hid (∀ w, Calls Tryz.prog 37 #[.string s, .int .u8 42] w fun e w' => e = .returned (.tuple #[.string ⟨f.toArray⟩, .string ⟨b.toArray⟩, .bool false]) ∧ Below w.heap.size w w')) (HF : Hid (f = q ++ List.replicate D 46)) (lf : q.length + D ≤ 30) (HL : Hid (∀ M (h : q.length = M + 1), ((((⟨q.toArray⟩ : ByteArray)[M]'(by show M < q.length; omega)).toNat : Int) == 46) = false)) (p : Int) (HN : Hid (∀ w, Calls Tryz.prog 38 #[.string ⟨q.toArray⟩] w fun e w' => e = .returned (.tuple #[.int .i64 p, .bool true]) ∧ Below w.heap.size w w')) (B : Nat) (HB : Hid (∀ j : Nat, j < B → j < 6 ∧ Val.bt (j : Int) < p)) (HE6 : Hid (B < 6 → ¬ Val.bt (B : Int) < p)) (X : List UInt8) (HX : Hid (Val.txtE B D 0 0 = X ∧ Val.lenE B D 0 0 = 40)) :
    Calls Tryz.prog 13 #[.string s] w fun ed w' => ed = .returned (.tuple #[vl 0 0 0 0, .int .i64 12]) ∧ Below w.heap.size w w' := by
  have hB0 : Below w.heap.size w w := Below.refl _ _
  go_enter Tryz.func13, Tryz.ntmps13
  go_wp2_with fail
  refine (HC.out _).mono ?_
  rintro e w1 ⟨rfl, hb1⟩
  have hs1 : Below w.heap.size w w1 := Below.trans (by repeat (first | exact Below.refl _ _ | refine Below.alloc ?_ (by simp <;> omega) _)) (hb1.mono (by simp <;> omega))
  have c_r_0 : w1.cell? ⟨w.heap.size, 0, none⟩ = some (.int .i64 0) := (hb1.cell (by simp <;> omega)).trans (by go_simp)
  have f_r_0 : w1.frozen? ⟨w.heap.size, 0, none⟩ = false := (hb1.frozen (by simp <;> omega)).trans (by go_simp)
  have c_r_1 : w1.cell? ⟨w.heap.size, 1, none⟩ = some (.int .i64 0) := (hb1.cell (by simp <;> omega)).trans (by go_simp)
  have f_r_1 : w1.frozen? ⟨w.heap.size, 1, none⟩ = false := (hb1.frozen (by simp <;> omega)).trans (by go_simp)
  have c_r_2 : w1.cell? ⟨w.heap.size, 2, none⟩ = some (.int .i64 0) := (hb1.cell (by simp <;> omega)).trans (by go_simp)
  have f_r_2 : w1.frozen? ⟨w.heap.size, 2, none⟩ = false := (hb1.frozen (by simp <;> omega)).trans (by go_simp)
  have c_r_3 : w1.cell? ⟨w.heap.size, 3, none⟩ = some (.int .i64 0) := (hb1.cell (by simp <;> omega)).trans (by go_simp)
  have f_r_3 : w1.frozen? ⟨w.heap.size, 3, none⟩ = false := (hb1.frozen (by simp <;> omega)).trans (by go_simp)
  have z_r := World.block_lt_of_cell? _ _ c_r_0
  have hB1 := below_two hB0 hs1
  clear hB0 hs1 hb1
  have hsz := World.block_lt_of_cell? _ _ c_r_0
  simp only at hsz
  go_upto_block 0 with fail
  have hs2 : Below w1.heap.size w1 (w1.alloc (.cells #[.int .i64 0, .int .i64 0, .int .i64 0, .int .i64 0] 23)) := by repeat (first | exact Below.refl _ _ | refine Below.alloc ?_ (by simp <;> omega) _)
  replace f_r_0 := frozen_later hs2 c_r_0 f_r_0
  replace c_r_0 := cell_later hs2 c_r_0
  replace f_r_1 := frozen_later hs2 c_r_1 f_r_1
  replace c_r_1 := cell_later hs2 c_r_1
  replace f_r_2 := frozen_later hs2 c_r_2 f_r_2
  replace c_r_2 := cell_later hs2 c_r_2
  replace f_r_3 := frozen_later hs2 c_r_3 f_r_3
  replace c_r_3 := cell_later hs2 c_r_3
  have c_v_0 : (w1.alloc (.cells #[.int .i64 0, .int .i64 0, .int .i64 0, .int .i64 0] 23)).cell? ⟨w1.heap.size, 0, none⟩ = some (.int .i64 0) := by go_simp
  have f_v_0 : (w1.alloc (.cells #[.int .i64 0, .int .i64 0, .int .i64 0, .int .i64 0] 23)).frozen? ⟨w1.heap.size, 0, none⟩ = false := by go_simp
  have c_v_1 : (w1.alloc (.cells #[.int .i64 0, .int .i64 0, .int .i64 0, .int .i64 0] 23)).cell? ⟨w1.heap.size, 1, none⟩ = some (.int .i64 0) := by go_simp
  have f_v_1 : (w1.alloc (.cells #[.int .i64 0, .int .i64 0, .int .i64 0, .int .i64 0] 23)).frozen? ⟨w1.heap.size, 1, none⟩ = false := by go_simp
  have c_v_2 : (w1.alloc (.cells #[.int .i64 0, .int .i64 0, .int .i64 0, .int .i64 0] 23)).cell? ⟨w1.heap.size, 2, none⟩ = some (.int .i64 0) := by go_simp
  have f_v_2 : (w1.alloc (.cells #[.int .i64 0, .int .i64 0, .int .i64 0, .int .i64 0] 23)).frozen? ⟨w1.heap.size, 2, none⟩ = false := by go_simp
  have c_v_3 : (w1.alloc (.cells #[.int .i64 0, .int .i64 0, .int .i64 0, .int .i64 0] 23)).cell? ⟨w1.heap.size, 3, none⟩ = some (.int .i64 0) := by go_simp
  have f_v_3 : (w1.alloc (.cells #[.int .i64 0, .int .i64 0, .int .i64 0, .int .i64 0] 23)).frozen? ⟨w1.heap.size, 3, none⟩ = false := by go_simp
  have hB2 := below_two hB1 hs2
  clear hB1 hs2
  have y2_r := z_r
  generalize (w1.alloc (.cells #[.int .i64 0, .int .i64 0, .int .i64 0, .int .i64 0] 23)) = w2 at *
  clear z_r
  have z_r := World.block_lt_of_cell? _ _ c_r_0
  have z_v := World.block_lt_of_cell? _ _ c_v_0
  have HRP : Hid (RP 0 0 0 0 w.heap.size w1.heap.size w w2) := Lib.hid ⟨c_r_0, f_r_0, c_r_1, f_r_1, c_r_2, f_r_2, c_r_3, f_r_3, c_v_0, f_v_0, c_v_1, f_v_1, c_v_2, f_v_2, c_v_3, f_v_3, hB2⟩
  clear c_r_0 f_r_0 c_r_1 f_r_1 c_r_2 f_r_2 c_r_3 f_r_3 c_v_0 f_v_0 c_v_1 f_v_1 c_v_2 f_v_2 c_v_3 f_v_3 z_r z_v hB2
  go_cut [4] (fun a wr => a = .string ⟨q.toArray⟩ ∧ Hid (RP 0 D 0 0 w.heap.size w1.heap.size w wr))
  case first =>
    go_wp2_with fail
    go_loopw [4] (fun a wr => RdA q D w.heap.size w1.heap.size w a wr) (fun a _ => szOf a)
    case atStart => exact ⟨0, _, rfl, by omega, Lib.hid (by rw [HF.out]; rfl), HRP⟩
    case round =>
      clear HRP
      obtain ⟨k, T, rfl, hk, HT, HRP⟩ := hrel
      by_cases hlt : k < D
      · obtain ⟨m, rfl⟩ : ∃ m, D = k + (m + 1) := ⟨D - k - 1, by omega⟩
        rw [show k + (m + 1) - k = m + 1 by omega] at HT
        obtain ⟨t1, t2, t3⟩ := dot_last q m HT.out
        have HE := Lib.hid t3
        have HS : Hid (T.size = q.length + m + 1) := Lib.hid t1
        have t4 := t2 (by omega)
        obtain ⟨r0, g0, r1, g1, r2, g2, r3, g3, c0, f0, c1, f1, c2, f2, c3, f3, hB⟩ := HRP.out
        go_wp2_with fail
        refine ⟨⟨k + 1, _, rfl, by omega, Lib.hid ?_, Lib.hid ?_⟩, ?_⟩
        · rw [HE.out, show k + (m + 1) - (k + 1) = m by omega]
        · have := HRP.out.set1 ((k : Int) + 1) (by omega) (by omega)
          rw [show (((k + 1 : Nat)) : Int) = (k : Int) + 1 by omega]
          exact this
        · rw [HE.out]
          show (q ++ List.replicate m 46).length < T.size
          rw [HS.out]; simp
      · obtain rfl : k = D := by omega
        rw [Nat.sub_self, List.replicate_zero, List.append_nil] at HT
        obtain ⟨r0, g0, r1, g1, r2, g2, r3, g3, c0, f0, c1, f1, c2, f2, c3, f3, hB⟩ := HRP.out
        have hz : T.size = q.length := by rw [HT.out]; rfl
        by_cases hq : q.length = 0
        · have hz0 : T.size = 0 := by omega
          go_wp2_with fail
          go_meet
          case rel => exact ⟨by rw [HT.out], HRP⟩
        · obtain ⟨M, hM⟩ : ∃ M, q.length = M + 1 := ⟨q.length - 1, by omega⟩
          have hz1 : T.size = M + 1 := by omega
          have hl : (((T[M]'(by omega)).toNat : Int) == 46) = false := by
            have := HL.out M hM
            have e : ∀ (T' : ByteArray) (h : T = T') (h1 : M < T.size) (h2 : M < T'.size), T[M] = T'[M] := fun T' h h1 h2 => by subst h; rfl
            rw [e _ HT.out (by omega) (by show M < q.length; omega)]
            exact this
          go_wp2_with fail
          go_meet
          case rel => exact ⟨by rw [HT.out], HRP⟩
  case rest =>
    clear HRP HF HL
    obtain ⟨rfl, HRP⟩ := hcut
    go_wp2_with fail
    refine (HN.out _).mono ?_
    rintro ed w5 ⟨rfl, hb⟩
    replace HRP := Lib.hid (HRP.out.later hb)
    clear hb
    go_upto_block 2 with fail
    go_cut [] (fun wr => Hid (RP B D 0 0 w.heap.size w1.heap.size w wr))
    case first =>
      go_wp2_with fail
      go_loopw [] (fun wr => RdB B D w.heap.size w1.heap.size w wr) (fun wr => 6 - baseOf w1.heap.size wr)
      case atStart => exact ⟨0, by omega, HRP⟩
      case round =>
        clear HRP
        obtain ⟨j, hj, HRP⟩ := hrel
        obtain ⟨r0, g0, r1, g1, r2, g2, r3, g3, c0, f0, c1, f1, c2, f2, c3, f3, hB⟩ := HRP.out
        by_cases hj6 : j < 6
        · have j6' : (j : Int) < 6 := by omega
          have HPW : Hid (∀ w, Calls Tryz.prog 39 #[.int .i64 (j : Int)] w fun ed w' => ed = .returned (.int .i64 (Val.bt j)) ∧ w = w') := Lib.hid (fun w => power_any (by omega) (by omega) w)
          by_cases hjB : j < B
          · have jp := (HB.out j hjB).2
            generalize Val.bt (j : Int) = P at *
            go_wp2_with fail
            refine (HPW.out _).mono ?_
            rintro ed wx ⟨rfl, rfl⟩
            go_wp2_with fail
            refine ⟨⟨j + 1, by omega, Lib.hid ?_⟩, ?_⟩
            · have := HRP.out.set0 ((j : Int) + 1) (by omega) (by omega)
              rw [show (((j + 1 : Nat)) : Int) = (j : Int) + 1 by omega]
              exact this
            · have := (HRP.out.set0 ((j : Int) + 1) (by omega) (by omega)).c0
              unfold baseOf
              rw [this, c0]
              show 6 - ((j : Int) + 1).toNat < 6 - (j : Int).toNat
              omega
          · obtain rfl : j = B := by omega
            have jp := HE6.out hj6
            generalize Val.bt (j : Int) = P at *
            go_wp2_with fail
            refine (HPW.out _).mono ?_
            rintro ed wx ⟨rfl, rfl⟩
            go_wp2_with fail
            go_meet
            case rel => exact HRP
        · obtain rfl : j = B := by
            rcases Nat.lt_or_ge j B with h | h
            · have := (HB.out j h).1; omega
            · omega
          have j6' : ¬ (j : Int) < 6 := by omega
          go_wp2_with fail
          go_meet
          case rel => exact HRP
    case rest =>
      clear HRP
      have HRP := hcut
      obtain ⟨r0, g0, r1, g1, r2, g2, r3, g3, c0, f0, c1, f1, c2, f2, c3, f3, hB⟩ := HRP.out
      go_wp2_with fail
      refine (vrefText_any _ _ _ _ _).mono ?_
      rintro ed w6 ⟨rfl, hb⟩
      rw [HX.out.1, HX.out.2]
      clear r0 g0 r1 g1 r2 g2 r3 g3 c0 f0 c1 f1 c2 f2 c3 f3 hB
      have HRQ := Lib.hid (HRP.out.later hb)
      clear hb HRP hcut
      obtain ⟨r0, g0, r1, g1, r2, g2, r3, g3, c0, f0, c1, f1, c2, f2, c3, f3, hB⟩ := HRQ.out
      go_wp2_with fail
      obtain ⟨m0, m1, m2, m3⟩ := put4_of (x := .int .i64 0) (y := .int .i64 0) (z := .int .i64 0) (u := .int .i64 0) r0 r1 r2 r3
      go_wp2_with fail
      exact bodyPost_ret (v := .tuple #[vl 0 0 0 0, .int .i64 12]) (by simp [results, Tryz.results13, go_sem, m0, m1, m2, m3]) rfl ⟨rfl, put4_below hB (by omega)⟩

set_option maxRecDepth 100000 in
set_option maxHeartbeats 4000000 in
theorem vrefRead_no3 (s : ByteArray) (w : World) (q b : List UInt8) (D : Nat) (f : List UInt8) (HC : Hid (∀ w, Calls Tryz.prog 37 #[.string s, .int .u8 42] w fun e w' => e = .returned (.tuple #[.string ⟨f.toArray⟩, .string ⟨b.toArray⟩, .bool false]) ∧ Below w.heap.size w w')) (HF : Hid (f = q ++ List.replicate D 46)) (lf : q.length + D ≤ 30) (HL : Hid (∀ M (h : q.length = M + 1), ((((⟨q.toArray⟩ : ByteArray)[M]'(by show M < q.length; omega)).toNat : Int) == 46) = false)) (p : Int) (HN : Hid (∀ w, Calls Tryz.prog 38 #[.string ⟨q.toArray⟩] w fun e w' => e = .returned (.tuple #[.int .i64 p, .bool true]) ∧ Below w.heap.size w w')) (B : Nat) (HB : Hid (∀ j : Nat, j < B → j < 6 ∧ Val.bt (j : Int) < p)) (HE6 : Hid (B < 6 → ¬ Val.bt (B : Int) < p)) (X : List UInt8) (HX : Hid (Val.txtE B D 0 0 = X ∧ Val.lenE B D 0 0 = 0)) (hl : (X == s.toList) = false) :
    Calls Tryz.prog 13 #[.string s] w fun ed w' => ed = .returned (.tuple #[vl 0 0 0 0, .int .i64 12]) ∧ Below w.heap.size w w' := by
  have hB0 : Below w.heap.size w w := Below.refl _ _
  go_enter Tryz.func13, Tryz.ntmps13
  go_wp2_with fail
  refine (HC.out _).mono ?_
  rintro e w1 ⟨rfl, hb1⟩
  have hs1 : Below w.heap.size w w1 := Below.trans (by repeat (first | exact Below.refl _ _ | refine Below.alloc ?_ (by simp <;> omega) _)) (hb1.mono (by simp <;> omega))
  have c_r_0 : w1.cell? ⟨w.heap.size, 0, none⟩ = some (.int .i64 0) := (hb1.cell (by simp <;> omega)).trans (by go_simp)
  have f_r_0 : w1.frozen? ⟨w.heap.size, 0, none⟩ = false := (hb1.frozen (by simp <;> omega)).trans (by go_simp)
  have c_r_1 : w1.cell? ⟨w.heap.size, 1, none⟩ = some (.int .i64 0) := (hb1.cell (by simp <;> omega)).trans (by go_simp)
  have f_r_1 : w1.frozen? ⟨w.heap.size, 1, none⟩ = false := (hb1.frozen (by simp <;> omega)).trans (by go_simp)
  have c_r_2 : w1.cell? ⟨w.heap.size, 2, none⟩ = some (.int .i64 0) := (hb1.cell (by simp <;> omega)).trans (by go_simp)
  have f_r_2 : w1.frozen? ⟨w.heap.size, 2, none⟩ = false := (hb1.frozen (by simp <;> omega)).trans (by go_simp)
  have c_r_3 : w1.cell? ⟨w.heap.size, 3, none⟩ = some (.int .i64 0) := (hb1.cell (by simp <;> omega)).trans (by go_simp)
  have f_r_3 : w1.frozen? ⟨w.heap.size, 3, none⟩ = false := (hb1.frozen (by simp <;> omega)).trans (by go_simp)
  have z_r := World.block_lt_of_cell? _ _ c_r_0
  have hB1 := below_two hB0 hs1
  clear hB0 hs1 hb1
  have hsz := World.block_lt_of_cell? _ _ c_r_0
  simp only at hsz
  go_upto_block 0 with fail
  have hs2 : Below w1.heap.size w1 (w1.alloc (.cells #[.int .i64 0, .int .i64 0, .int .i64 0, .int .i64 0] 23)) := by repeat (first | exact Below.refl _ _ | refine Below.alloc ?_ (by simp <;> omega) _)
  replace f_r_0 := frozen_later hs2 c_r_0 f_r_0
  replace c_r_0 := cell_later hs2 c_r_0
  replace f_r_1 := frozen_later hs2 c_r_1 f_r_1
  replace c_r_1 := cell_later hs2 c_r_1
  replace f_r_2 := frozen_later hs2 c_r_2 f_r_2
  replace c_r_2 := cell_later hs2 c_r_2
  replace f_r_3 := frozen_later hs2 c_r_3 f_r_3
  replace c_r_3 := cell_later hs2 c_r_3
  have c_v_0 : (w1.alloc (.cells #[.int .i64 0, .int .i64 0, .int .i64 0, .int .i64 0] 23)).cell? ⟨w1.heap.size, 0, none⟩ = some (.int .i64 0) := by go_simp
  have f_v_0 : (w1.alloc (.cells #[.int .i64 0, .int .i64 0, .int .i64 0, .int .i64 0] 23)).frozen? ⟨w1.heap.size, 0, none⟩ = false := by go_simp
  have c_v_1 : (w1.alloc (.cells #[.int .i64 0, .int .i64 0, .int .i64 0, .int .i64 0] 23)).cell? ⟨w1.heap.size, 1, none⟩ = some (.int .i64 0) := by go_simp
  have f_v_1 : (w1.alloc (.cells #[.int .i64 0, .int .i64 0, .int .i64 0, .int .i64 0] 23)).frozen? ⟨w1.heap.size, 1, none⟩ = false := by go_simp
  have c_v_2 : (w1.alloc (.cells #[.int .i64 0, .int .i64 0, .int .i64 0, .int .i64 0] 23)).cell? ⟨w1.heap.size, 2, none⟩ = some (.int .i64 0) := by go_simp
  have f_v_2 : (w1.alloc (.cells #[.int .i64 0, .int .i64 0, .int .i64 0, .int .i64 0] 23)).frozen? ⟨w1.heap.size, 2, none⟩ = false := by go_simp
  have c_v_3 : (w1.alloc (.cells #[.int .i64 0, .int .i64 0, .int .i64 0, .int .i64 0] 23)).cell? ⟨w1.heap.size, 3, none⟩ = some (.int .i64 0) := by go_simp
  have f_v_3 : (w1.alloc (.cells #[.int .i64 0, .int .i64 0, .int .i64 0, .int .i64 0] 23)).frozen? ⟨w1.heap.size, 3, none⟩ = false := by go_simp
  have hB2 := below_two hB1 hs2
  clear hB1 hs2
  have y2_r := z_r
  generalize (w1.alloc (.cells #[.int .i64 0, .int .i64 0, .int .i64 0, .int .i64 0] 23)) = w2 at *
  clear z_r
  have z_r := World.block_lt_of_cell? _ _ c_r_0
  have z_v := World.block_lt_of_cell? _ _ c_v_0
  have HRP : Hid (RP 0 0 0 0 w.heap.size w1.heap.size w w2) := Lib.hid ⟨c_r_0, f_r_0, c_r_1, f_r_1, c_r_2, f_r_2, c_r_3, f_r_3, c_v_0, f_v_0, c_v_1, f_v_1, c_v_2, f_v_2, c_v_3, f_v_3, hB2⟩
  clear c_r_0 f_r_0 c_r_1 f_r_1 c_r_2 f_r_2 c_r_3 f_r_3 c_v_0 f_v_0 c_v_1 f_v_1 c_v_2 f_v_2 c_v_3 f_v_3 z_r z_v hB2
  go_cut [4] (fun a wr => a = .string ⟨q.toArray⟩ ∧ Hid (RP 0 D 0 0 w.heap.size w1.heap.size w wr))
  case first =>
    go_wp2_with fail
    go_loopw [4] (fun a wr => RdA q D w.heap.size w1.heap.size w a wr) (fun a _ => szOf a)
    case atStart => exact ⟨0, _, rfl, by omega, Lib.hid (by rw [HF.out]; rfl), HRP⟩
    case round =>
      clear HRP
      obtain ⟨k, T, rfl, hk, HT, HRP⟩ := hrel
      by_cases hlt : k < D
      · obtain ⟨m, rfl⟩ : ∃ m, D = k + (m + 1) := ⟨D - k - 1, by omega⟩
        rw [show k + (m + 1) - k = m + 1 by omega] at HT
        obtain ⟨t1, t2, t3⟩ := dot_last q m HT.out
        have HE := Lib.hid t3
        have HS : Hid (T.size = q.length + m + 1) := Lib.hid t1
        have t4 := t2 (by omega)
        obtain ⟨r0, g0, r1, g1, r2, g2, r3, g3, c0, f0, c1, f1, c2, f2, c3, f3, hB⟩ := HRP.out
        go_wp2_with fail
        refine ⟨⟨k + 1, _, rfl, by omega, Lib.hid ?_, Lib.hid ?_⟩, ?_⟩
        · rw [HE.out, show k + (m + 1) - (k + 1) = m by omega]
        · have := HRP.out.set1 ((k : Int) + 1) (by omega) (by omega)
          rw [show (((k + 1 : Nat)) : Int) = (k : Int) + 1 by omega]
          exact this
        · rw [HE.out]
          show (q ++ List.replicate m 46).length < T.size
          rw [HS.out]; simp
      · obtain rfl : k = D := by omega
        rw [Nat.sub_self, List.replicate_zero, List.append_nil] at HT
        obtain ⟨r0, g0, r1, g1, r2, g2, r3, g3, c0, f0, c1, f1, c2, f2, c3, f3, hB⟩ := HRP.out
        have hz : T.size = q.length := by rw [HT.out]; rfl
        by_cases hq : q.length = 0
        · have hz0 : T.size = 0 := by omega
          go_wp2_with fail
          go_meet
          case rel => exact ⟨by rw [HT.out], HRP⟩
        · obtain ⟨M, hM⟩ : ∃ M, q.length = M + 1 := ⟨q.length - 1, by omega⟩
          have hz1 : T.size = M + 1 := by omega
          have hl : (((T[M]'(by omega)).toNat : Int) == 46) = false := by
            have := HL.out M hM
            have e : ∀ (T' : ByteArray) (h : T = T') (h1 : M < T.size) (h2 : M < T'.size), T[M] = T'[M] := fun T' h h1 h2 => by subst h; rfl
            rw [e _ HT.out (by omega) (by show M < q.length; omega)]
            exact this
          go_wp2_with fail
          go_meet
          case rel => exact ⟨by rw [HT.out], HRP⟩
  case rest =>
    clear HRP HF HL
    obtain ⟨rfl, HRP⟩ := hcut
    go_wp2_with fail
    refine (HN.out _).mono ?_
    rintro ed w5 ⟨rfl, hb⟩
    replace HRP := Lib.hid (HRP.out.later hb)
    clear hb
    go_upto_block 2 with fail
    go_cut [] (fun wr => Hid (RP B D 0 0 w.heap.size w1.heap.size w wr))
    case first =>
      go_wp2_with fail
      go_loopw [] (fun wr => RdB B D w.heap.size w1.heap.size w wr) (fun wr => 6 - baseOf w1.heap.size wr)
      case atStart => exact ⟨0, by omega, HRP⟩
      case round =>
        clear HRP
        obtain ⟨j, hj, HRP⟩ := hrel
        obtain ⟨r0, g0, r1, g1, r2, g2, r3, g3, c0, f0, c1, f1, c2, f2, c3, f3, hB⟩ := HRP.out
        by_cases hj6 : j < 6
        · have j6' : (j : Int) < 6 := by omega
          have HPW : Hid (∀ w, Calls Tryz.prog 39 #[.int .i64 (j : Int)] w fun ed w' => ed = .returned (.int .i64 (Val.bt j)) ∧ w = w') := Lib.hid (fun w => power_any (by omega) (by omega) w)
          by_cases hjB : j < B
          · have jp := (HB.out j hjB).2
            generalize Val.bt (j : Int) = P at *
            go_wp2_with fail
            refine (HPW.out _).mono ?_
            rintro ed wx ⟨rfl, rfl⟩
            go_wp2_with fail
            refine ⟨⟨j + 1, by omega, Lib.hid ?_⟩, ?_⟩
            · have := HRP.out.set0 ((j : Int) + 1) (by omega) (by omega)
              rw [show (((j + 1 : Nat)) : Int) = (j : Int) + 1 by omega]
              exact this
            · have := (HRP.out.set0 ((j : Int) + 1) (by omega) (by omega)).c0
              unfold baseOf
              rw [this, c0]
              show 6 - ((j : Int) + 1).toNat < 6 - (j : Int).toNat
              omega
          · obtain rfl : j = B := by omega
            have jp := HE6.out hj6
            generalize Val.bt (j : Int) = P at *
            go_wp2_with fail
            refine (HPW.out _).mono ?_
            rintro ed wx ⟨rfl, rfl⟩
            go_wp2_with fail
            go_meet
            case rel => exact HRP
        · obtain rfl : j = B := by
            rcases Nat.lt_or_ge j B with h | h
            · have := (HB.out j h).1; omega
            · omega
          have j6' : ¬ (j : Int) < 6 := by omega
          go_wp2_with fail
          go_meet
          case rel => exact HRP
    case rest =>
      clear HRP
      have HRP := hcut
      obtain ⟨r0, g0, r1, g1, r2, g2, r3, g3, c0, f0, c1, f1, c2, f2, c3, f3, hB⟩ := HRP.out
      go_wp2_with fail
      refine (vrefText_any _ _ _ _ _).mono ?_
      rintro ed w6 ⟨rfl, hb⟩
      rw [HX.out.1, HX.out.2]
      clear r0 g0 r1 g1 r2 g2 r3 g3 c0 f0 c1 f1 c2 f2 c3 f3 hB
      have HRQ := Lib.hid (HRP.out.later hb)
      clear hb HRP hcut
      obtain ⟨r0, g0, r1, g1, r2, g2, r3, g3, c0, f0, c1, f1, c2, f2, c3, f3, hB⟩ := HRQ.out
      go_wp2_with fail
      obtain ⟨m0, m1, m2, m3⟩ := put4_of (x := .int .i64 0) (y := .int .i64 0) (z := .int .i64 0) (u := .int .i64 0) r0 r1 r2 r3
      go_wp2_with fail
      exact bodyPost_ret (v := .tuple #[vl 0 0 0 0, .int .i64 12]) (by simp [results, Tryz.results13, go_sem, m0, m1, m2, m3]) rfl ⟨rfl, put4_below hB (by omega)⟩
end Go.Proofs.YtejiifkenanodaaGreatDoor
