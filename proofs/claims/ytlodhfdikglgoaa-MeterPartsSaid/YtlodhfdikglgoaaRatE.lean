/-
  The contract of ratio.apply, at each of the three deeds.
-/
import Derived.Test.YtlodhfdikglgoaaRatD
namespace Go.Proofs.Ytlodhfdikglgoaa
open Go.RowKit

theorem below_two {W w1 w2 : World} (h1 : Below W.heap.size W w1) (h2 : Below w1.heap.size w1 w2) : Below W.heap.size W w2 := h1.trans (h2.mono h1.size)
theorem frozen_later {w wx : World} {a : Addr} {v : Value} (hb : Below w.heap.size w wx) (h : w.cell? a = some v) (hf : w.frozen? a = false) : wx.frozen? a = false := (hb.frozen (World.block_lt_of_cell? w _ h)).trans hf

/-- What a cell holds, under a name. -/
def heldAt (w : World) (a : Addr) : Value := (w.cell? a).getD undef
theorem held_of {w : World} {a : Addr} {v : Value} (h : w.cell? a = some v) : w.cell? a = some (heldAt w a) := by unfold heldAt; rw [h]; rfl
theorem held_later {w wx : World} {a : Addr} (hb : Below w.heap.size w wx) (h : w.cell? a = some (heldAt w a)) : wx.cell? a = some (heldAt wx a) := held_of (cell_later hb h)
theorem frozen_held {w wx : World} {a : Addr} (hb : Below w.heap.size w wx) (h : w.cell? a = some (heldAt w a)) (hf : w.frozen? a = false) : wx.frozen? a = false := frozen_later hb h hf
theorem stored_far {w : World} {B b o : Nat} {x y v : Value} (h : b ≠ B) (hc : w.cell? ⟨b, o, none⟩ = some v) : ((w.setCell ⟨B, 0, none⟩ x).setCell ⟨B, 1, none⟩ y).cell? ⟨b, o, none⟩ = some v := by
  rw [World.cell?_setCell_far _ _ _ _ (Ne.symm h), World.cell?_setCell_far _ _ _ _ (Ne.symm h)]; exact hc
theorem stored_held {w : World} {B o : Nat} {x y : Value} (h : w.cell? ⟨B, o, none⟩ = some (heldAt w ⟨B, o, none⟩)) :
    ((w.setCell ⟨B, 0, none⟩ x).setCell ⟨B, 1, none⟩ y).cell? ⟨B, o, none⟩ = some (heldAt ((w.setCell ⟨B, 0, none⟩ x).setCell ⟨B, 1, none⟩ y) ⟨B, o, none⟩) := by
  obtain ⟨v1, h1⟩ := cell?_setCell_some (p := ⟨B, 0, none⟩) (x := x) h
  obtain ⟨v2, h2⟩ := cell?_setCell_some (p := ⟨B, 1, none⟩) (x := y) h1
  exact held_of h2
theorem stored_frozen {w : World} {B : Nat} {x y : Value} {a : Addr} (h : w.frozen? a = false) : ((w.setCell ⟨B, 0, none⟩ x).setCell ⟨B, 1, none⟩ y).frozen? a = false := by
  rw [World.frozen?_setCell, World.frozen?_setCell]; exact h
theorem stored_below {n B : Nat} {w W : World} {x y : Value} (h : Below n w W) (hB : n ≤ B) : Below n w ((W.setCell ⟨B, 0, none⟩ x).setCell ⟨B, 1, none⟩ y) := (h.setCell hB _).setCell hB _
theorem stored_0 {w : World} {B : Nat} {x y : Value} (h : w.cell? ⟨B, 0, none⟩ = some (heldAt w ⟨B, 0, none⟩)) : ((w.setCell ⟨B, 0, none⟩ x).setCell ⟨B, 1, none⟩ y).cell? ⟨B, 0, none⟩ = some x := by
  rw [World.cell?_setCell_other _ _ _ _ (by simp)]; exact World.cell?_setCell_same' _ _ _ (by rw [h]; rfl)
theorem stored_1 {w : World} {B : Nat} {x y : Value} (h : w.cell? ⟨B, 1, none⟩ = some (heldAt w ⟨B, 1, none⟩)) : ((w.setCell ⟨B, 0, none⟩ x).setCell ⟨B, 1, none⟩ y).cell? ⟨B, 1, none⟩ = some y := by
  obtain ⟨v1, h1⟩ := cell?_setCell_some (p := ⟨B, 0, none⟩) (x := x) h
  exact World.cell?_setCell_same' _ _ _ (by rw [h1]; rfl)

set_option maxRecDepth 100000 in
set_option maxHeartbeats 2000000 in
theorem apply_sum_yes (a b c d k : Int) (p : Nat) (w : World) (hk : w.cell? ⟨p, 0, none⟩ = some (.int .i64 k)) (h1 : Rat.right a b = true) (h2 : Rat.right c d = true) :
    Calls Try.prog 48 #[deedSum p, rt a b, rt c d] w fun e w' => e = .returned (rv (Rat.ofN (sumW k a b c d) (mulW b d)) (Rat.ofD (sumW k a b c d) (mulW b d)) (Rat.ofE (sumW k a b c d) (mulW b d))) ∧ Below w.heap.size w w' := by
  have hp := World.block_lt_of_cell? w _ hk
  go_enter Try.func48, Try.ntmps48
  go_wp2_with fail
  refine (ratio_right _ _ _).mono ?_
  rintro e w1 ⟨rfl, hb1⟩
  obtain ⟨hc, hf⟩ := bcell hb1
  go_wp2_with fail
  refine (ratio_right _ _ _).mono ?_
  rintro e w2 ⟨rfl, hb2⟩
  clear hc hf
  have hb := below_two hb1 hb2
  clear hb1 hb2
  have c1 : w2.cell? ⟨w.heap.size, 0, none⟩ = some (.func (.func 60) #[] #[.pointer (some ⟨p, 0, none⟩)]) := (hb.cell (by simp <;> omega)).trans (by go_simp)
  have c2 : w2.cell? ⟨w.heap.size, 1, none⟩ = some (.func (.func 61) #[] #[]) := (hb.cell (by simp <;> omega)).trans (by go_simp)
  have c3 : w2.cell? ⟨w.heap.size + 1, 0, none⟩ = some (.int .i64 a) := (hb.cell (by simp <;> omega)).trans (by go_simp)
  have c4 : w2.cell? ⟨w.heap.size + 1, 1, none⟩ = some (.int .i64 b) := (hb.cell (by simp <;> omega)).trans (by go_simp)
  have c5 : w2.cell? ⟨w.heap.size + 1 + 1, 0, none⟩ = some (.int .i64 c) := (hb.cell (by simp <;> omega)).trans (by go_simp)
  have c6 : w2.cell? ⟨w.heap.size + 1 + 1, 1, none⟩ = some (.int .i64 d) := (hb.cell (by simp <;> omega)).trans (by go_simp)
  have c7 : w2.cell? ⟨w.heap.size + 1 + 1 + 1, 0, none⟩ = some (.int .i64 0) := (hb.cell (by simp)).trans (by go_simp)
  have f7 : w2.frozen? ⟨w.heap.size + 1 + 1 + 1, 0, none⟩ = false := (hb.frozen (by simp)).trans (by go_simp)
  have c8 : w2.cell? ⟨w.heap.size + 1 + 1 + 1, 1, none⟩ = some (.int .i64 0) := (hb.cell (by simp)).trans (by go_simp)
  have f8 : w2.frozen? ⟨w.heap.size + 1 + 1 + 1, 1, none⟩ = false := (hb.frozen (by simp)).trans (by go_simp)
  have hB : Below w.heap.size w w2 := Below.trans (by repeat (first | exact Below.refl _ _ | refine below_drewN ?_ _ | refine Below.drew ?_ | refine Below.setCell ?_ (by simp <;> omega) _ | refine Below.alloc ?_ (by simp <;> omega) _)) (hb.mono (by simp; omega))
  have ck : w2.cell? ⟨p, 0, none⟩ = some (.int .i64 k) := cell_later hB hk
  clear hk
  have n1 : p ≠ w.heap.size + 1 + 1 + 1 := by omega
  clear hb
  have c9 : w2.cell? ⟨w.heap.size + 1 + 1 + 1, 0, none⟩ = some (heldAt w2 ⟨w.heap.size + 1 + 1 + 1, 0, none⟩) := held_of c7
  have c10 : w2.cell? ⟨w.heap.size + 1 + 1 + 1, 1, none⟩ = some (heldAt w2 ⟨w.heap.size + 1 + 1 + 1, 1, none⟩) := held_of c8
  clear c7 c8
  go_wp2_with fail
  go_region_held3 (fun w' => w'.cell? ⟨w.heap.size, 0, none⟩ = some (.func (.func 60) #[] #[.pointer (some ⟨p, 0, none⟩)]) ∧ w'.cell? ⟨w.heap.size, 1, none⟩ = some (.func (.func 61) #[] #[]) ∧ w'.cell? ⟨w.heap.size + 1, 0, none⟩ = some (.int .i64 a) ∧ w'.cell? ⟨w.heap.size + 1, 1, none⟩ = some (.int .i64 b) ∧ w'.cell? ⟨w.heap.size + 1 + 1, 0, none⟩ = some (.int .i64 c) ∧ w'.cell? ⟨w.heap.size + 1 + 1, 1, none⟩ = some (.int .i64 d) ∧ w'.cell? ⟨p, 0, none⟩ = some (.int .i64 k) ∧ w'.cell? ⟨w.heap.size + 1 + 1 + 1, 0, none⟩ = some (heldAt w' ⟨w.heap.size + 1 + 1 + 1, 0, none⟩) ∧ w'.cell? ⟨w.heap.size + 1 + 1 + 1, 1, none⟩ = some (heldAt w' ⟨w.heap.size + 1 + 1 + 1, 1, none⟩) ∧ w'.frozen? ⟨w.heap.size + 1 + 1 + 1, 0, none⟩ = false ∧ w'.frozen? ⟨w.heap.size + 1 + 1 + 1, 1, none⟩ = false ∧ Below w.heap.size w w')
    (((try go_split_ands); refine ⟨?_, ?_, ?_, ?_, ?_, ?_, ?_, ?_, ?_, ?_, ?_, ?_⟩ <;> first | (refine cell_later hq ?_; assumption) | (refine held_later hq ?_; assumption) | (refine frozen_held hq ?_ ?_ <;> assumption) | (refine below_two ?_ hq; assumption) | exact c1 | exact c2 | exact c3 | exact c4 | exact c5 | exact c6 | exact ck | exact f7 | exact f8 | exact hB.drew | exact held_of (w := w2.drew) c9 | exact held_of (w := w2.drew) c10 | (refine stored_far ?_ ?_; omega; assumption) | (refine stored_held ?_; assumption) | (refine stored_frozen ?_; assumption) | (refine stored_below ?_ ?_; assumption; omega)))
    (first
      | (go_at_call 60; refine (sum1_any _ _ _ _ k p _ ?_).mono ?_; (first | exact ck | assumption); rintro e w' ⟨rfl, hq⟩)
      | (go_at_call 61; refine (sum2_any _ _ _ _ _).mono ?_; rintro e w' ⟨rfl, hq⟩)
      | (go_at_call 28; refine (of_any _ _ _ (i64_sumW _ _ _ _ _) (i64_mulW _ _)).mono ?_; rintro e w' ⟨rfl, hq⟩))
  rename_i u1 q1 u2 q2 hS
  obtain ⟨-, -, -, -, -, -, -, -, -, -, -, hBl⟩ := hS
  have m0 := stored_0 (x := .int .i64 (Rat.ofN (sumW k a b c d) (mulW b d))) (y := .int .i64 (Rat.ofD (sumW k a b c d) (mulW b d))) (held_later hq (held_later q2 (held_later q1 (held_of (w := w2.drew) c9))))
  have m1 := stored_1 (x := .int .i64 (Rat.ofN (sumW k a b c d) (mulW b d))) (y := .int .i64 (Rat.ofD (sumW k a b c d) (mulW b d))) (held_later hq (held_later q2 (held_later q1 (held_of (w := w2.drew) c10))))
  go_wp2
  exact bodyPost_ret (v := rv (Rat.ofN (sumW k a b c d) (mulW b d)) (Rat.ofD (sumW k a b c d) (mulW b d)) (Rat.ofE (sumW k a b c d) (mulW b d))) (by simp [results, Try.results48, go_sem, m0, m1]) rfl ⟨rfl, hBl⟩

set_option maxRecDepth 100000 in
set_option maxHeartbeats 2000000 in
theorem apply_sum_no1 (a b c d : Int) (p : Nat) (w : World) (h1 : Rat.right a b = false) :
    Calls Try.prog 48 #[deedSum p, rt a b, rt c d] w fun e w' => e = .returned (rv 0 0 10) ∧ Below w.heap.size w w' := by
  go_enter Try.func48, Try.ntmps48
  go_wp2_with fail
  refine (ratio_right _ _ _).mono ?_
  rintro e w2 ⟨rfl, hb⟩
  have c7 : w2.cell? ⟨w.heap.size + 1 + 1 + 1, 0, none⟩ = some (.int .i64 0) := (hb.cell (by simp)).trans (by go_simp)
  have f7 : w2.frozen? ⟨w.heap.size + 1 + 1 + 1, 0, none⟩ = false := (hb.frozen (by simp)).trans (by go_simp)
  have c8 : w2.cell? ⟨w.heap.size + 1 + 1 + 1, 1, none⟩ = some (.int .i64 0) := (hb.cell (by simp)).trans (by go_simp)
  have f8 : w2.frozen? ⟨w.heap.size + 1 + 1 + 1, 1, none⟩ = false := (hb.frozen (by simp)).trans (by go_simp)
  have hB : Below w.heap.size w w2 := Below.trans (by repeat (first | exact Below.refl _ _ | refine below_drewN ?_ _ | refine Below.drew ?_ | refine Below.setCell ?_ (by simp <;> omega) _ | refine Below.alloc ?_ (by simp <;> omega) _)) (hb.mono (by simp; omega))
  clear hb
  have m0 := stored_0 (x := .int .i64 0) (y := .int .i64 0) (held_of c7)
  have m1 := stored_1 (x := .int .i64 0) (y := .int .i64 0) (held_of c8)
  go_wp2
  exact bodyPost_ret (v := rv 0 0 10) (by simp [results, Try.results48, go_sem, m0, m1]) rfl ⟨rfl, stored_below hB (by omega)⟩

set_option maxRecDepth 100000 in
set_option maxHeartbeats 2000000 in
theorem apply_sum_no2 (a b c d : Int) (p : Nat) (w : World) (h1 : Rat.right a b = true) (h2 : Rat.right c d = false) :
    Calls Try.prog 48 #[deedSum p, rt a b, rt c d] w fun e w' => e = .returned (rv 0 0 10) ∧ Below w.heap.size w w' := by
  go_enter Try.func48, Try.ntmps48
  go_wp2_with fail
  refine (ratio_right _ _ _).mono ?_
  rintro e w1 ⟨rfl, hb1⟩
  obtain ⟨hc, hf⟩ := bcell hb1
  go_wp2_with fail
  refine (ratio_right _ _ _).mono ?_
  rintro e w2 ⟨rfl, hb2⟩
  clear hc hf
  have hb := below_two hb1 hb2
  clear hb1 hb2
  have c7 : w2.cell? ⟨w.heap.size + 1 + 1 + 1, 0, none⟩ = some (.int .i64 0) := (hb.cell (by simp)).trans (by go_simp)
  have f7 : w2.frozen? ⟨w.heap.size + 1 + 1 + 1, 0, none⟩ = false := (hb.frozen (by simp)).trans (by go_simp)
  have c8 : w2.cell? ⟨w.heap.size + 1 + 1 + 1, 1, none⟩ = some (.int .i64 0) := (hb.cell (by simp)).trans (by go_simp)
  have f8 : w2.frozen? ⟨w.heap.size + 1 + 1 + 1, 1, none⟩ = false := (hb.frozen (by simp)).trans (by go_simp)
  have hB : Below w.heap.size w w2 := Below.trans (by repeat (first | exact Below.refl _ _ | refine below_drewN ?_ _ | refine Below.drew ?_ | refine Below.setCell ?_ (by simp <;> omega) _ | refine Below.alloc ?_ (by simp <;> omega) _)) (hb.mono (by simp; omega))
  clear hb
  have m0 := stored_0 (x := .int .i64 0) (y := .int .i64 0) (held_of c7)
  have m1 := stored_1 (x := .int .i64 0) (y := .int .i64 0) (held_of c8)
  go_wp2
  exact bodyPost_ret (v := rv 0 0 10) (by simp [results, Try.results48, go_sem, m0, m1]) rfl ⟨rfl, stored_below hB (by omega)⟩

theorem apply_sum (a b c d k : Int) (p : Nat) (w : World) (hk : w.cell? ⟨p, 0, none⟩ = some (.int .i64 k)) :
    Calls Try.prog 48 #[deedSum p, rt a b, rt c d] w fun e w' => e = .returned (rv (binN (Rat.right a b && Rat.right c d) (sumW k a b c d) (mulW b d)) (binD (Rat.right a b && Rat.right c d) (sumW k a b c d) (mulW b d)) (binE (Rat.right a b && Rat.right c d) (sumW k a b c d) (mulW b d))) ∧ Below w.heap.size w w' := by
  cases h1 : Rat.right a b
  · exact apply_sum_no1 a b c d p w h1
  · cases h2 : Rat.right c d
    · exact apply_sum_no2 a b c d p w h1 h2
    · exact apply_sum_yes a b c d k p w hk h1 h2

set_option maxRecDepth 100000 in
set_option maxHeartbeats 2000000 in
theorem apply_product_yes (a b c d : Int) (w : World) (h1 : Rat.right a b = true) (h2 : Rat.right c d = true) :
    Calls Try.prog 48 #[deedProduct, rt a b, rt c d] w fun e w' => e = .returned (rv (Rat.ofN (mulW a c) (mulW b d)) (Rat.ofD (mulW a c) (mulW b d)) (Rat.ofE (mulW a c) (mulW b d))) ∧ Below w.heap.size w w' := by
  go_enter Try.func48, Try.ntmps48
  go_wp2_with fail
  refine (ratio_right _ _ _).mono ?_
  rintro e w1 ⟨rfl, hb1⟩
  obtain ⟨hc, hf⟩ := bcell hb1
  go_wp2_with fail
  refine (ratio_right _ _ _).mono ?_
  rintro e w2 ⟨rfl, hb2⟩
  clear hc hf
  have hb := below_two hb1 hb2
  clear hb1 hb2
  have c1 : w2.cell? ⟨w.heap.size, 0, none⟩ = some (.func (.func 62) #[] #[]) := (hb.cell (by simp <;> omega)).trans (by go_simp)
  have c2 : w2.cell? ⟨w.heap.size, 1, none⟩ = some (.func (.func 63) #[] #[]) := (hb.cell (by simp <;> omega)).trans (by go_simp)
  have c3 : w2.cell? ⟨w.heap.size + 1, 0, none⟩ = some (.int .i64 a) := (hb.cell (by simp <;> omega)).trans (by go_simp)
  have c4 : w2.cell? ⟨w.heap.size + 1, 1, none⟩ = some (.int .i64 b) := (hb.cell (by simp <;> omega)).trans (by go_simp)
  have c5 : w2.cell? ⟨w.heap.size + 1 + 1, 0, none⟩ = some (.int .i64 c) := (hb.cell (by simp <;> omega)).trans (by go_simp)
  have c6 : w2.cell? ⟨w.heap.size + 1 + 1, 1, none⟩ = some (.int .i64 d) := (hb.cell (by simp <;> omega)).trans (by go_simp)
  have c7 : w2.cell? ⟨w.heap.size + 1 + 1 + 1, 0, none⟩ = some (.int .i64 0) := (hb.cell (by simp)).trans (by go_simp)
  have f7 : w2.frozen? ⟨w.heap.size + 1 + 1 + 1, 0, none⟩ = false := (hb.frozen (by simp)).trans (by go_simp)
  have c8 : w2.cell? ⟨w.heap.size + 1 + 1 + 1, 1, none⟩ = some (.int .i64 0) := (hb.cell (by simp)).trans (by go_simp)
  have f8 : w2.frozen? ⟨w.heap.size + 1 + 1 + 1, 1, none⟩ = false := (hb.frozen (by simp)).trans (by go_simp)
  have hB : Below w.heap.size w w2 := Below.trans (by repeat (first | exact Below.refl _ _ | refine below_drewN ?_ _ | refine Below.drew ?_ | refine Below.setCell ?_ (by simp <;> omega) _ | refine Below.alloc ?_ (by simp <;> omega) _)) (hb.mono (by simp; omega))
  clear hb
  have c9 : w2.cell? ⟨w.heap.size + 1 + 1 + 1, 0, none⟩ = some (heldAt w2 ⟨w.heap.size + 1 + 1 + 1, 0, none⟩) := held_of c7
  have c10 : w2.cell? ⟨w.heap.size + 1 + 1 + 1, 1, none⟩ = some (heldAt w2 ⟨w.heap.size + 1 + 1 + 1, 1, none⟩) := held_of c8
  clear c7 c8
  go_wp2_with fail
  go_region_held3 (fun w' => w'.cell? ⟨w.heap.size, 0, none⟩ = some (.func (.func 62) #[] #[]) ∧ w'.cell? ⟨w.heap.size, 1, none⟩ = some (.func (.func 63) #[] #[]) ∧ w'.cell? ⟨w.heap.size + 1, 0, none⟩ = some (.int .i64 a) ∧ w'.cell? ⟨w.heap.size + 1, 1, none⟩ = some (.int .i64 b) ∧ w'.cell? ⟨w.heap.size + 1 + 1, 0, none⟩ = some (.int .i64 c) ∧ w'.cell? ⟨w.heap.size + 1 + 1, 1, none⟩ = some (.int .i64 d) ∧ w'.cell? ⟨w.heap.size + 1 + 1 + 1, 0, none⟩ = some (heldAt w' ⟨w.heap.size + 1 + 1 + 1, 0, none⟩) ∧ w'.cell? ⟨w.heap.size + 1 + 1 + 1, 1, none⟩ = some (heldAt w' ⟨w.heap.size + 1 + 1 + 1, 1, none⟩) ∧ w'.frozen? ⟨w.heap.size + 1 + 1 + 1, 0, none⟩ = false ∧ w'.frozen? ⟨w.heap.size + 1 + 1 + 1, 1, none⟩ = false ∧ Below w.heap.size w w')
    (((try go_split_ands); refine ⟨?_, ?_, ?_, ?_, ?_, ?_, ?_, ?_, ?_, ?_, ?_⟩ <;> first | (refine cell_later hq ?_; assumption) | (refine held_later hq ?_; assumption) | (refine frozen_held hq ?_ ?_ <;> assumption) | (refine below_two ?_ hq; assumption) | exact c1 | exact c2 | exact c3 | exact c4 | exact c5 | exact c6 | exact f7 | exact f8 | exact hB.drew | exact held_of (w := w2.drew) c9 | exact held_of (w := w2.drew) c10 | (refine stored_far ?_ ?_; omega; assumption) | (refine stored_held ?_; assumption) | (refine stored_frozen ?_; assumption) | (refine stored_below ?_ ?_; assumption; omega)))
    (first
      | (go_at_call 62; refine (product1_any _ _ _ _ _).mono ?_; rintro e w' ⟨rfl, hq⟩)
      | (go_at_call 63; refine (product2_any _ _ _ _ _).mono ?_; rintro e w' ⟨rfl, hq⟩)
      | (go_at_call 28; refine (of_any _ _ _ (i64_mulW _ _) (i64_mulW _ _)).mono ?_; rintro e w' ⟨rfl, hq⟩))
  rename_i u1 q1 u2 q2 hS
  obtain ⟨-, -, -, -, -, -, -, -, -, -, hBl⟩ := hS
  have m0 := stored_0 (x := .int .i64 (Rat.ofN (mulW a c) (mulW b d))) (y := .int .i64 (Rat.ofD (mulW a c) (mulW b d))) (held_later hq (held_later q2 (held_later q1 (held_of (w := w2.drew) c9))))
  have m1 := stored_1 (x := .int .i64 (Rat.ofN (mulW a c) (mulW b d))) (y := .int .i64 (Rat.ofD (mulW a c) (mulW b d))) (held_later hq (held_later q2 (held_later q1 (held_of (w := w2.drew) c10))))
  go_wp2
  exact bodyPost_ret (v := rv (Rat.ofN (mulW a c) (mulW b d)) (Rat.ofD (mulW a c) (mulW b d)) (Rat.ofE (mulW a c) (mulW b d))) (by simp [results, Try.results48, go_sem, m0, m1]) rfl ⟨rfl, hBl⟩

set_option maxRecDepth 100000 in
set_option maxHeartbeats 2000000 in
theorem apply_product_no1 (a b c d : Int) (w : World) (h1 : Rat.right a b = false) :
    Calls Try.prog 48 #[deedProduct, rt a b, rt c d] w fun e w' => e = .returned (rv 0 0 10) ∧ Below w.heap.size w w' := by
  go_enter Try.func48, Try.ntmps48
  go_wp2_with fail
  refine (ratio_right _ _ _).mono ?_
  rintro e w2 ⟨rfl, hb⟩
  have c7 : w2.cell? ⟨w.heap.size + 1 + 1 + 1, 0, none⟩ = some (.int .i64 0) := (hb.cell (by simp)).trans (by go_simp)
  have f7 : w2.frozen? ⟨w.heap.size + 1 + 1 + 1, 0, none⟩ = false := (hb.frozen (by simp)).trans (by go_simp)
  have c8 : w2.cell? ⟨w.heap.size + 1 + 1 + 1, 1, none⟩ = some (.int .i64 0) := (hb.cell (by simp)).trans (by go_simp)
  have f8 : w2.frozen? ⟨w.heap.size + 1 + 1 + 1, 1, none⟩ = false := (hb.frozen (by simp)).trans (by go_simp)
  have hB : Below w.heap.size w w2 := Below.trans (by repeat (first | exact Below.refl _ _ | refine below_drewN ?_ _ | refine Below.drew ?_ | refine Below.setCell ?_ (by simp <;> omega) _ | refine Below.alloc ?_ (by simp <;> omega) _)) (hb.mono (by simp; omega))
  clear hb
  have m0 := stored_0 (x := .int .i64 0) (y := .int .i64 0) (held_of c7)
  have m1 := stored_1 (x := .int .i64 0) (y := .int .i64 0) (held_of c8)
  go_wp2
  exact bodyPost_ret (v := rv 0 0 10) (by simp [results, Try.results48, go_sem, m0, m1]) rfl ⟨rfl, stored_below hB (by omega)⟩

set_option maxRecDepth 100000 in
set_option maxHeartbeats 2000000 in
theorem apply_product_no2 (a b c d : Int) (w : World) (h1 : Rat.right a b = true) (h2 : Rat.right c d = false) :
    Calls Try.prog 48 #[deedProduct, rt a b, rt c d] w fun e w' => e = .returned (rv 0 0 10) ∧ Below w.heap.size w w' := by
  go_enter Try.func48, Try.ntmps48
  go_wp2_with fail
  refine (ratio_right _ _ _).mono ?_
  rintro e w1 ⟨rfl, hb1⟩
  obtain ⟨hc, hf⟩ := bcell hb1
  go_wp2_with fail
  refine (ratio_right _ _ _).mono ?_
  rintro e w2 ⟨rfl, hb2⟩
  clear hc hf
  have hb := below_two hb1 hb2
  clear hb1 hb2
  have c7 : w2.cell? ⟨w.heap.size + 1 + 1 + 1, 0, none⟩ = some (.int .i64 0) := (hb.cell (by simp)).trans (by go_simp)
  have f7 : w2.frozen? ⟨w.heap.size + 1 + 1 + 1, 0, none⟩ = false := (hb.frozen (by simp)).trans (by go_simp)
  have c8 : w2.cell? ⟨w.heap.size + 1 + 1 + 1, 1, none⟩ = some (.int .i64 0) := (hb.cell (by simp)).trans (by go_simp)
  have f8 : w2.frozen? ⟨w.heap.size + 1 + 1 + 1, 1, none⟩ = false := (hb.frozen (by simp)).trans (by go_simp)
  have hB : Below w.heap.size w w2 := Below.trans (by repeat (first | exact Below.refl _ _ | refine below_drewN ?_ _ | refine Below.drew ?_ | refine Below.setCell ?_ (by simp <;> omega) _ | refine Below.alloc ?_ (by simp <;> omega) _)) (hb.mono (by simp; omega))
  clear hb
  have m0 := stored_0 (x := .int .i64 0) (y := .int .i64 0) (held_of c7)
  have m1 := stored_1 (x := .int .i64 0) (y := .int .i64 0) (held_of c8)
  go_wp2
  exact bodyPost_ret (v := rv 0 0 10) (by simp [results, Try.results48, go_sem, m0, m1]) rfl ⟨rfl, stored_below hB (by omega)⟩

theorem apply_product (a b c d : Int) (w : World) :
    Calls Try.prog 48 #[deedProduct, rt a b, rt c d] w fun e w' => e = .returned (rv (binN (Rat.right a b && Rat.right c d) (mulW a c) (mulW b d)) (binD (Rat.right a b && Rat.right c d) (mulW a c) (mulW b d)) (binE (Rat.right a b && Rat.right c d) (mulW a c) (mulW b d))) ∧ Below w.heap.size w w' := by
  cases h1 : Rat.right a b
  · exact apply_product_no1 a b c d w h1
  · cases h2 : Rat.right c d
    · exact apply_product_no2 a b c d w h1 h2
    · exact apply_product_yes a b c d w h1 h2

end Go.Proofs.Ytlodhfdikglgoaa
