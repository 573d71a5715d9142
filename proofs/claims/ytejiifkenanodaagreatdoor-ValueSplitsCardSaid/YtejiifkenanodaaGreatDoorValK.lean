/-
  The contract of the statements' own sum.
-/
import Derived.Test.YtejiifkenanodaaGreatDoorValJ
import Derived.LoopN
namespace Go.Proofs.YtejiifkenanodaaGreatDoor
open Go.RowKit

structure SMem (P D : Int) (w wr : World) : Prop where
  r0 : wr.cell? ⟨w.heap.size, 0, none⟩ = some (.int .i64 0)
  r1 : wr.cell? ⟨w.heap.size, 1, none⟩ = some (.int .i64 0)
  g0 : wr.frozen? ⟨w.heap.size, 0, none⟩ = false
  g1 : wr.frozen? ⟨w.heap.size, 1, none⟩ = false
  a0 : wr.cell? ⟨w.heap.size + 1, 0, none⟩ = some (.int .i64 P)
  a1 : wr.cell? ⟨w.heap.size + 1, 1, none⟩ = some (.int .i64 D)
  h0 : wr.frozen? ⟨w.heap.size + 1, 0, none⟩ = false
  h1 : wr.frozen? ⟨w.heap.size + 1, 1, none⟩ = false
  below : Below w.heap.size w wr
theorem SMem.later {P D : Int} {w wr wx : World} (h : SMem P D w wr) (hb : Below wr.heap.size wr wx) : SMem P D w wx :=
  ⟨cell_later hb h.r0, cell_later hb h.r1, frozen_later hb h.r0 h.g0, frozen_later hb h.r1 h.g1, cell_later hb h.a0, cell_later hb h.a1, frozen_later hb h.a0 h.h0, frozen_later hb h.a1 h.h1, below_two h.below hb⟩
theorem SMem.put {P D : Int} {w wr : World} (h : SMem P D w wr) (X Y : Int) : SMem X Y w (put2 wr (w.heap.size + 1) (.int .i64 X) (.int .i64 Y)) := by
  obtain ⟨m0, m1⟩ := put2_of (x := .int .i64 X) (y := .int .i64 Y) h.a0 h.a1
  exact ⟨set_far (by omega) (set_far (by omega) h.r0), set_far (by omega) (set_far (by omega) h.r1), set_frozen (set_frozen h.g0), set_frozen (set_frozen h.g1), m0, m1, set_frozen (set_frozen h.h0), set_frozen (set_frozen h.h1), put2_below h.below (by omega)⟩
theorem Row.put2 {W : World} {v : Value} {f : Nat → Quad} {n B : Nat} {x y : Value} (h : Row W v f n) (hB : ∀ g cap, v = .slice (some ⟨g, 0, none⟩) n cap → g ≠ B) : Row (put2 W B x y) v f n := by
  obtain ⟨g, cap, rfl, hc⟩ := h
  have hg := hB g cap rfl
  exact ⟨g, cap, rfl, fun i hi => ⟨set_far hg (set_far hg (hc i hi).1), set_far hg (set_far hg (hc i hi).2.1), set_far hg (set_far hg (hc i hi).2.2.1), set_far hg (set_far hg (hc i hi).2.2.2)⟩⟩
def SumRel (f : Nat → Quad) (k g cap : Nat) (P D : Nat → Int) (w : World) (a : Value) (wr : World) : Prop := ∃ i : Nat, a = .int .i64 (i : Int) ∧ i ≤ k ∧ SMem (P i) (D i) w wr ∧ Hid (Row wr (.slice (some ⟨g, 0, none⟩) k cap) f k)

set_option maxRecDepth 100000 in
set_option maxHeartbeats 4000000 in
theorem sum_row (f : Nat → Quad) (k g cap : Nat) (P D : Nat → Int) (w : World) (hR : Vars w) (hk : k ≤ 1000000) (hrow : Row w (.slice (some ⟨g, 0, none⟩) k cap) f k) (hP : P 0 = 0) (hD : D 0 = 1) (H : Hid (∀ i, i < k → Val.ok (f i).1 (f i).2.1 (f i).2.2.1 (f i).2.2.2 = true ∧ ∀ w, Calls Tryz.prog 24 #[rt (P i) (D i), rt (Val.lenN (f i).1 (f i).2.1 (f i).2.2.1 (f i).2.2.2) (Val.lenD (f i).1 (f i).2.1 (f i).2.2.1 (f i).2.2.2)] w fun ed w' => ed = .returned (rv (P (i + 1)) (D (i + 1)) 0) ∧ Below w.heap.size w w')) :
    Calls Tryz.prog 26 #[.slice (some ⟨g, 0, none⟩) k cap] w fun ed w' => ed = .returned (.tuple #[rt (P k) (D k), .bool true]) ∧ Below w.heap.size w w' := by
  have hB0 : Below w.heap.size w w := Below.refl _ _
  go_enter Tryz.func26, Tryz.ntmps26
  go_wp2_with fail
  have hs1 : Below w.heap.size w ((w.alloc (.cells #[.int .i64 0, .int .i64 0] 25)).alloc (.cells #[.int .i64 0, .int .i64 1] 25)) := by repeat (first | exact Below.refl _ _ | refine Below.alloc ?_ (by simp <;> omega) _)
  have c_r_0 : ((w.alloc (.cells #[.int .i64 0, .int .i64 0] 25)).alloc (.cells #[.int .i64 0, .int .i64 1] 25)).cell? ⟨w.heap.size, 0, none⟩ = some (.int .i64 0) := by go_simp
  have f_r_0 : ((w.alloc (.cells #[.int .i64 0, .int .i64 0] 25)).alloc (.cells #[.int .i64 0, .int .i64 1] 25)).frozen? ⟨w.heap.size, 0, none⟩ = false := by go_simp
  have c_r_1 : ((w.alloc (.cells #[.int .i64 0, .int .i64 0] 25)).alloc (.cells #[.int .i64 0, .int .i64 1] 25)).cell? ⟨w.heap.size, 1, none⟩ = some (.int .i64 0) := by go_simp
  have f_r_1 : ((w.alloc (.cells #[.int .i64 0, .int .i64 0] 25)).alloc (.cells #[.int .i64 0, .int .i64 1] 25)).frozen? ⟨w.heap.size, 1, none⟩ = false := by go_simp
  have c_a_0 : ((w.alloc (.cells #[.int .i64 0, .int .i64 0] 25)).alloc (.cells #[.int .i64 0, .int .i64 1] 25)).cell? ⟨w.heap.size + 1, 0, none⟩ = some (.int .i64 0) := by go_simp
  have f_a_0 : ((w.alloc (.cells #[.int .i64 0, .int .i64 0] 25)).alloc (.cells #[.int .i64 0, .int .i64 1] 25)).frozen? ⟨w.heap.size + 1, 0, none⟩ = false := by go_simp
  have c_a_1 : ((w.alloc (.cells #[.int .i64 0, .int .i64 0] 25)).alloc (.cells #[.int .i64 0, .int .i64 1] 25)).cell? ⟨w.heap.size + 1, 1, none⟩ = some (.int .i64 1) := by go_simp
  have f_a_1 : ((w.alloc (.cells #[.int .i64 0, .int .i64 0] 25)).alloc (.cells #[.int .i64 0, .int .i64 1] 25)).frozen? ⟨w.heap.size + 1, 1, none⟩ = false := by go_simp
  have hB1 := below_two hB0 hs1
  clear hB0 hs1
  generalize ((w.alloc (.cells #[.int .i64 0, .int .i64 0] 25)).alloc (.cells #[.int .i64 0, .int .i64 1] 25)) = w1 at *
  have z_a := World.block_lt_of_cell? _ _ c_a_0
  have z_r := World.block_lt_of_cell? _ _ c_r_0
  have hM : SMem (P 0) (D 0) w w1 := by rw [hP, hD]; exact ⟨c_r_0, c_r_1, f_r_0, f_r_1, c_a_0, c_a_1, f_a_0, f_a_1, hB1⟩
  have HRW := Lib.hid (hrow.later hB1)
  clear c_r_0 c_r_1 f_r_0 f_r_1 c_a_0 c_a_1 f_a_0 f_a_1 z_r z_a hP hD
  go_loopw [5] (fun a wr => SumRel f k g cap P D w a wr) (fun a _ => ((k : Int) - intOf a).toNat)
  case atStart => exact ⟨0, rfl, by omega, hM, HRW⟩
  case round =>
    clear hM HRW hB1
    obtain ⟨i, rfl, hi, hM, HRW⟩ := hrel
    by_cases hp : i < k
    · obtain ⟨g', cap', e1, hc⟩ := HRW.out
      cases e1
      obtain ⟨s0, s1, s2, s3⟩ := hc i hp
      clear hc
      obtain ⟨hok, hadd⟩ := H.out i hp
      have HADD := Lib.hid hadd
      clear hadd
      generalize (f i).1 = x0 at *
      generalize (f i).2.1 = x1 at *
      generalize (f i).2.2.1 = x2 at *
      generalize (f i).2.2.2 = x3 at *
      obtain ⟨g'', cap'', e2, hc0⟩ := hrow
      cases e2
      have zg := World.block_lt_of_cell? _ _ (hc0 i hp).1
      simp only at zg
      clear hc0
      obtain ⟨X, HX⟩ : ∃ X, Hid (Val.lenN x0 x1 x2 x3 = X) := ⟨_, Lib.hid rfl⟩
      obtain ⟨Y, HY⟩ : ∃ Y, Hid (Val.lenD x0 x1 x2 x3 = Y) := ⟨_, Lib.hid rfl⟩
      go_wp2_with fail
      refine (length_right hok HX.out HY.out _ (hR.below hM.below)).mono ?_
      rintro ed w2 ⟨rfl, hb2⟩
      replace hM := hM.later hb2
      replace HRW := Lib.hid (HRW.out.later hb2)
      clear hb2 s0 s1 s2 s3 hok
      have a0 := hM.a0
      have a1 := hM.a1
      have za := World.block_lt_of_cell? _ _ a0
      have hadd := HADD.out
      rw [HX.out, HY.out] at hadd
      replace HADD := Lib.hid hadd
      clear hadd
      have HM2 := Lib.hid (hM.later ((Below.refl _ _).alloc (Nat.le_refl _) (.cells #[.int .i64 X, .int .i64 Y] 25)))
      replace HRW := Lib.hid (HRW.out.later ((Below.refl _ _).alloc (Nat.le_refl _) (.cells #[.int .i64 X, .int .i64 Y] 25)))
      clear hM
      go_wp2_with fail
      refine (HADD.out _).mono ?_
      rintro ed w3 ⟨rfl, hb3⟩
      have hM := HM2.out.later hb3
      replace HRW := Lib.hid (HRW.out.later hb3)
      clear hb3 HM2 HADD a0 a1 za
      obtain ⟨p, HP⟩ : ∃ p, Hid (P (i + 1) = p) := ⟨_, Lib.hid rfl⟩
      obtain ⟨q, HQ⟩ : ∃ q, Hid (D (i + 1) = q) := ⟨_, Lib.hid rfl⟩
      rw [HP.out, HQ.out]
      have a0 := hM.a0
      have a1 := hM.a1
      have h0 := hM.h0
      have h1 := hM.h1
      have za := World.block_lt_of_cell? _ _ a0
      have HM := Lib.hid hM
      clear hM
      go_wp2
      go_roundw
      case rel =>
        have hM5 := (HM.out.put p q).later ((Below.refl _ _).alloc (Nat.le_refl _) (.cells #[.int .i64 p, .int .i64 q] 25))
        have hr5 := (HRW.out.put2 (B := w.heap.size + 1) (x := .int .i64 p) (y := .int .i64 q) (fun g' cap' e => by cases e; omega)).later ((Below.refl _ _).alloc (Nat.le_refl _) (.cells #[.int .i64 p, .int .i64 q] 25))
        refine ⟨i + 1, by go_num, by omega, ?_, Lib.hid hr5⟩
        rw [HP.out, HQ.out]
        exact hM5
      case measure => simp [intOf]; omega
    · obtain rfl : i = k := by omega
      obtain ⟨p, HP⟩ : ∃ p, Hid (P i = p) := ⟨_, Lib.hid rfl⟩
      obtain ⟨q, HQ⟩ : ∃ q, Hid (D i = q) := ⟨_, Lib.hid rfl⟩
      rw [HP.out, HQ.out] at hM
      obtain ⟨r0, r1, g0, g1, a0, a1, h0, h1, hB⟩ := hM
      obtain ⟨m0, m1⟩ := put2_of (x := .int .i64 p) (y := .int .i64 q) r0 r1
      clear hrow HRW
      go_wp2
      exact bodyPost_ret (v := .tuple #[rt p q, .bool true]) (by simp [results, Tryz.results26, go_sem, m0, m1]) rfl ⟨by rw [HP.out, HQ.out], put2_below hB (by omega)⟩

set_option maxRecDepth 100000 in
set_option maxHeartbeats 4000000 in
theorem sum_nil (w : World) :
    Calls Tryz.prog 26 #[.slice none 0 0] w fun ed w' => ed = .returned (.tuple #[rt 0 1, .bool true]) ∧ Below w.heap.size w w' := by
  have hB0 : Below w.heap.size w w := Below.refl _ _
  go_enter Tryz.func26, Tryz.ntmps26
  go_wp2_with fail
  have hs1 : Below w.heap.size w ((w.alloc (.cells #[.int .i64 0, .int .i64 0] 25)).alloc (.cells #[.int .i64 0, .int .i64 1] 25)) := by repeat (first | exact Below.refl _ _ | refine Below.alloc ?_ (by simp <;> omega) _)
  have c_r_0 : ((w.alloc (.cells #[.int .i64 0, .int .i64 0] 25)).alloc (.cells #[.int .i64 0, .int .i64 1] 25)).cell? ⟨w.heap.size, 0, none⟩ = some (.int .i64 0) := by go_simp
  have f_r_0 : ((w.alloc (.cells #[.int .i64 0, .int .i64 0] 25)).alloc (.cells #[.int .i64 0, .int .i64 1] 25)).frozen? ⟨w.heap.size, 0, none⟩ = false := by go_simp
  have c_r_1 : ((w.alloc (.cells #[.int .i64 0, .int .i64 0] 25)).alloc (.cells #[.int .i64 0, .int .i64 1] 25)).cell? ⟨w.heap.size, 1, none⟩ = some (.int .i64 0) := by go_simp
  have f_r_1 : ((w.alloc (.cells #[.int .i64 0, .int .i64 0] 25)).alloc (.cells #[.int .i64 0, .int .i64 1] 25)).frozen? ⟨w.heap.size, 1, none⟩ = false := by go_simp
  have c_a_0 : ((w.alloc (.cells #[.int .i64 0, .int .i64 0] 25)).alloc (.cells #[.int .i64 0, .int .i64 1] 25)).cell? ⟨w.heap.size + 1, 0, none⟩ = some (.int .i64 0) := by go_simp
  have f_a_0 : ((w.alloc (.cells #[.int .i64 0, .int .i64 0] 25)).alloc (.cells #[.int .i64 0, .int .i64 1] 25)).frozen? ⟨w.heap.size + 1, 0, none⟩ = false := by go_simp
  have c_a_1 : ((w.alloc (.cells #[.int .i64 0, .int .i64 0] 25)).alloc (.cells #[.int .i64 0, .int .i64 1] 25)).cell? ⟨w.heap.size + 1, 1, none⟩ = some (.int .i64 1) := by go_simp
  have f_a_1 : ((w.alloc (.cells #[.int .i64 0, .int .i64 0] 25)).alloc (.cells #[.int .i64 0, .int .i64 1] 25)).frozen? ⟨w.heap.size + 1, 1, none⟩ = false := by go_simp
  have hB1 := below_two hB0 hs1
  clear hB0 hs1
  generalize ((w.alloc (.cells #[.int .i64 0, .int .i64 0] 25)).alloc (.cells #[.int .i64 0, .int .i64 1] 25)) = w1 at *
  have z_a := World.block_lt_of_cell? _ _ c_a_0
  have z_r := World.block_lt_of_cell? _ _ c_r_0
  obtain ⟨m0, m1⟩ := put2_of (x := .int .i64 0) (y := .int .i64 1) c_r_0 c_r_1
  go_wp2
  refine wp_loop_rounds 1 ?_
  rw [rounds_succ]
  go_wp2
  exact bodyPost_ret (v := .tuple #[rt 0 1, .bool true]) (by simp [results, Tryz.results26, go_sem, m0, m1]) rfl ⟨rfl, put2_below hB1 (by omega)⟩
end Go.Proofs.YtejiifkenanodaaGreatDoor
