/-
  The contracts of ratio.Add, Sub, Mul, Div.
-/
import Derived.Test.YtlodhfdikglgoaaRatE
namespace Go.Proofs.Ytlodhfdikglgoaa
open Go.RowKit

theorem three_new (w : World) (a b c d : Int) (t : TypeId) :
    let W := ((w.alloc (.cells #[.int .i64 a, .int .i64 b] t)).alloc (.cells #[.int .i64 c, .int .i64 d] t)).alloc (.cells #[.int .i64 0, .int .i64 0] t)
    W.cell? ⟨w.heap.size, 0, none⟩ = some (.int .i64 a) ∧ W.cell? ⟨w.heap.size, 1, none⟩ = some (.int .i64 b) ∧ W.cell? ⟨w.heap.size + 1, 0, none⟩ = some (.int .i64 c) ∧ W.cell? ⟨w.heap.size + 1, 1, none⟩ = some (.int .i64 d) ∧
    W.cell? ⟨w.heap.size + 1 + 1, 0, none⟩ = some (.int .i64 0) ∧ W.cell? ⟨w.heap.size + 1 + 1, 1, none⟩ = some (.int .i64 0) ∧ W.frozen? ⟨w.heap.size + 1 + 1, 0, none⟩ = false ∧ W.frozen? ⟨w.heap.size + 1 + 1, 1, none⟩ = false ∧ Below w.heap.size w W := by
  refine ⟨by go_simp, by go_simp, by go_simp, by go_simp, by go_simp, by go_simp, by go_simp, by go_simp, ?_⟩
  (repeat (first | exact Below.refl _ _ | refine Below.alloc ?_ (by simp <;> omega) _))
theorem binE_no (n d : Int) : binE false n d = 10 := rfl
theorem binN_no (n d : Int) : binN false n d = 0 := rfl
theorem binD_no (n d : Int) : binD false n d = 0 := rfl

set_option maxRecDepth 100000 in
set_option maxHeartbeats 2000000 in
theorem add_raw (a b c d : Int) (w : World) :
    Calls Try.prog 31 #[rt a b, rt c d] w fun e w' => e = .returned (rv (binN (Rat.right a b && Rat.right c d) (sumW 1 a b c d) (mulW b d)) (binD (Rat.right a b && Rat.right c d) (sumW 1 a b c d) (mulW b d)) (binE (Rat.right a b && Rat.right c d) (sumW 1 a b c d) (mulW b d))) ∧ Below w.heap.size w w' := by
  go_enter Try.func31, Try.ntmps31
  go_wp2_with fail
  obtain ⟨c3, c4, c5, c6, c7, c8, f7, f8, hB⟩ := three_new w a b c d 26
  generalize ((w.alloc (.cells #[.int .i64 a, .int .i64 b] 26)).alloc (.cells #[.int .i64 c, .int .i64 d] 26)).alloc (.cells #[.int .i64 0, .int .i64 0] 26) = w2 at *
  have c9 : w2.cell? ⟨w.heap.size + 1 + 1, 0, none⟩ = some (heldAt w2 ⟨w.heap.size + 1 + 1, 0, none⟩) := held_of c7
  have c10 : w2.cell? ⟨w.heap.size + 1 + 1, 1, none⟩ = some (heldAt w2 ⟨w.heap.size + 1 + 1, 1, none⟩) := held_of c8
  clear c7 c8
  go_region_held3 (fun w' => w'.cell? ⟨w.heap.size, 0, none⟩ = some (.int .i64 a) ∧ w'.cell? ⟨w.heap.size, 1, none⟩ = some (.int .i64 b) ∧ w'.cell? ⟨w.heap.size + 1, 0, none⟩ = some (.int .i64 c) ∧ w'.cell? ⟨w.heap.size + 1, 1, none⟩ = some (.int .i64 d) ∧ w'.cell? ⟨w.heap.size + 1 + 1, 0, none⟩ = some (heldAt w' ⟨w.heap.size + 1 + 1, 0, none⟩) ∧ w'.cell? ⟨w.heap.size + 1 + 1, 1, none⟩ = some (heldAt w' ⟨w.heap.size + 1 + 1, 1, none⟩) ∧ w'.frozen? ⟨w.heap.size + 1 + 1, 0, none⟩ = false ∧ w'.frozen? ⟨w.heap.size + 1 + 1, 1, none⟩ = false ∧ Below w.heap.size w w')
    (((try go_split_ands); refine ⟨?_, ?_, ?_, ?_, ?_, ?_, ?_, ?_, ?_⟩ <;> first | (refine cell_later hq ?_; assumption) | (refine held_later hq ?_; assumption) | (refine frozen_held hq ?_ ?_ <;> assumption) | (refine below_two ?_ hq; assumption) | exact c3 | exact c4 | exact c5 | exact c6 | exact f7 | exact f8 | exact hB.drew | exact held_of (w := w2.drew) c9 | exact held_of (w := w2.drew) c10 | (refine stored_far ?_ ?_; omega; assumption) | (refine stored_held ?_; assumption) | (refine stored_frozen ?_; assumption) | (refine stored_below ?_ ?_; assumption; omega)))
    (first
      | (go_at_call 49; refine (sum_any _ _).mono ?_; rintro e w' ⟨bk, rfl, hk, hq⟩)
      | (go_at_call 48; refine (apply_sum _ _ _ _ (1) bk _ hk).mono ?_; rintro e w' ⟨rfl, hq⟩))
  rename_i u1 bk hk q1 hS
  obtain ⟨-, -, -, -, -, -, -, -, hBl⟩ := hS
  have m0 := stored_0 (x := .int .i64 (binN (Rat.right a b && Rat.right c d) (sumW 1 a b c d) (mulW b d))) (y := .int .i64 (binD (Rat.right a b && Rat.right c d) (sumW 1 a b c d) (mulW b d))) (held_later hq (held_later q1 (held_of (w := w2.drew) c9)))
  have m1 := stored_1 (x := .int .i64 (binN (Rat.right a b && Rat.right c d) (sumW 1 a b c d) (mulW b d))) (y := .int .i64 (binD (Rat.right a b && Rat.right c d) (sumW 1 a b c d) (mulW b d))) (held_later hq (held_later q1 (held_of (w := w2.drew) c10)))
  go_wp2
  exact bodyPost_ret (v := rv (binN (Rat.right a b && Rat.right c d) (sumW 1 a b c d) (mulW b d)) (binD (Rat.right a b && Rat.right c d) (sumW 1 a b c d) (mulW b d)) (binE (Rat.right a b && Rat.right c d) (sumW 1 a b c d) (mulW b d))) (by simp [results, Try.results31, go_sem, m0, m1]) rfl ⟨rfl, hBl⟩

theorem add_any (a b c d : Int) (w : World) :
    Calls Try.prog 31 #[rt a b, rt c d] w fun e w' => e = .returned (rv (binN (Rat.right a b && Rat.right c d) (a * d + c * b) (b * d)) (binD (Rat.right a b && Rat.right c d) (a * d + c * b) (b * d)) (binE (Rat.right a b && Rat.right c d) (a * d + c * b) (b * d))) ∧ Below w.heap.size w w' := by
  cases h1 : (Rat.right a b && Rat.right c d)
  · have := add_raw a b c d w
    rw [h1, binN_no, binD_no, binE_no] at this
    rw [binN_no, binD_no, binE_no]
    exact this
  · have := add_raw a b c d w
    rw [h1] at this
    obtain ⟨x, y⟩ := (Bool.and_eq_true _ _).mp h1
    have hx := (Rat.right_iff _ _).1 x
    have hy := (Rat.right_iff _ _).1 y
    have hM := Rat.M_eq
    have ha : -1000000000 ≤ a ∧ a ≤ 1000000000 := ⟨by have := hx.n0; omega, by have := hx.nM; omega⟩
    have hb : -1000000000 ≤ b ∧ b ≤ 1000000000 := ⟨by have := hx.d1; omega, by have := hx.dM; omega⟩
    have hc : -1000000000 ≤ c ∧ c ≤ 1000000000 := ⟨by have := hy.n0; omega, by have := hy.nM; omega⟩
    have hd : -1000000000 ≤ d ∧ d ≤ 1000000000 := ⟨by have := hy.d1; omega, by have := hy.dM; omega⟩
    rw [sumW_one ha hb hc hd, mulW_eq hb hd] at this
    exact this

set_option maxRecDepth 100000 in
set_option maxHeartbeats 2000000 in
theorem sub_raw (a b c d : Int) (w : World) :
    Calls Try.prog 26 #[rt a b, rt c d] w fun e w' => e = .returned (rv (binN (Rat.right a b && Rat.right c d) (sumW (-1) a b c d) (mulW b d)) (binD (Rat.right a b && Rat.right c d) (sumW (-1) a b c d) (mulW b d)) (binE (Rat.right a b && Rat.right c d) (sumW (-1) a b c d) (mulW b d))) ∧ Below w.heap.size w w' := by
  go_enter Try.func26, Try.ntmps26
  go_wp2_with fail
  obtain ⟨c3, c4, c5, c6, c7, c8, f7, f8, hB⟩ := three_new w a b c d 26
  generalize ((w.alloc (.cells #[.int .i64 a, .int .i64 b] 26)).alloc (.cells #[.int .i64 c, .int .i64 d] 26)).alloc (.cells #[.int .i64 0, .int .i64 0] 26) = w2 at *
  have c9 : w2.cell? ⟨w.heap.size + 1 + 1, 0, none⟩ = some (heldAt w2 ⟨w.heap.size + 1 + 1, 0, none⟩) := held_of c7
  have c10 : w2.cell? ⟨w.heap.size + 1 + 1, 1, none⟩ = some (heldAt w2 ⟨w.heap.size + 1 + 1, 1, none⟩) := held_of c8
  clear c7 c8
  go_region_held3 (fun w' => w'.cell? ⟨w.heap.size, 0, none⟩ = some (.int .i64 a) ∧ w'.cell? ⟨w.heap.size, 1, none⟩ = some (.int .i64 b) ∧ w'.cell? ⟨w.heap.size + 1, 0, none⟩ = some (.int .i64 c) ∧ w'.cell? ⟨w.heap.size + 1, 1, none⟩ = some (.int .i64 d) ∧ w'.cell? ⟨w.heap.size + 1 + 1, 0, none⟩ = some (heldAt w' ⟨w.heap.size + 1 + 1, 0, none⟩) ∧ w'.cell? ⟨w.heap.size + 1 + 1, 1, none⟩ = some (heldAt w' ⟨w.heap.size + 1 + 1, 1, none⟩) ∧ w'.frozen? ⟨w.heap.size + 1 + 1, 0, none⟩ = false ∧ w'.frozen? ⟨w.heap.size + 1 + 1, 1, none⟩ = false ∧ Below w.heap.size w w')
    (((try go_split_ands); refine ⟨?_, ?_, ?_, ?_, ?_, ?_, ?_, ?_, ?_⟩ <;> first | (refine cell_later hq ?_; assumption) | (refine held_later hq ?_; assumption) | (refine frozen_held hq ?_ ?_ <;> assumption) | (refine below_two ?_ hq; assumption) | exact c3 | exact c4 | exact c5 | exact c6 | exact f7 | exact f8 | exact hB.drew | exact held_of (w := w2.drew) c9 | exact held_of (w := w2.drew) c10 | (refine stored_far ?_ ?_; omega; assumption) | (refine stored_held ?_; assumption) | (refine stored_frozen ?_; assumption) | (refine stored_below ?_ ?_; assumption; omega)))
    (first
      | (go_at_call 49; refine (sum_any _ _).mono ?_; rintro e w' ⟨bk, rfl, hk, hq⟩)
      | (go_at_call 48; refine (apply_sum _ _ _ _ (-1) bk _ hk).mono ?_; rintro e w' ⟨rfl, hq⟩))
  rename_i u1 bk hk q1 hS
  obtain ⟨-, -, -, -, -, -, -, -, hBl⟩ := hS
  have m0 := stored_0 (x := .int .i64 (binN (Rat.right a b && Rat.right c d) (sumW (-1) a b c d) (mulW b d))) (y := .int .i64 (binD (Rat.right a b && Rat.right c d) (sumW (-1) a b c d) (mulW b d))) (held_later hq (held_later q1 (held_of (w := w2.drew) c9)))
  have m1 := stored_1 (x := .int .i64 (binN (Rat.right a b && Rat.right c d) (sumW (-1) a b c d) (mulW b d))) (y := .int .i64 (binD (Rat.right a b && Rat.right c d) (sumW (-1) a b c d) (mulW b d))) (held_later hq (held_later q1 (held_of (w := w2.drew) c10)))
  go_wp2
  exact bodyPost_ret (v := rv (binN (Rat.right a b && Rat.right c d) (sumW (-1) a b c d) (mulW b d)) (binD (Rat.right a b && Rat.right c d) (sumW (-1) a b c d) (mulW b d)) (binE (Rat.right a b && Rat.right c d) (sumW (-1) a b c d) (mulW b d))) (by simp [results, Try.results26, go_sem, m0, m1]) rfl ⟨rfl, hBl⟩

theorem sub_any (a b c d : Int) (w : World) :
    Calls Try.prog 26 #[rt a b, rt c d] w fun e w' => e = .returned (rv (binN (Rat.right a b && Rat.right c d) (a * d - c * b) (b * d)) (binD (Rat.right a b && Rat.right c d) (a * d - c * b) (b * d)) (binE (Rat.right a b && Rat.right c d) (a * d - c * b) (b * d))) ∧ Below w.heap.size w w' := by
  cases h1 : (Rat.right a b && Rat.right c d)
  · have := sub_raw a b c d w
    rw [h1, binN_no, binD_no, binE_no] at this
    rw [binN_no, binD_no, binE_no]
    exact this
  · have := sub_raw a b c d w
    rw [h1] at this
    obtain ⟨x, y⟩ := (Bool.and_eq_true _ _).mp h1
    have hx := (Rat.right_iff _ _).1 x
    have hy := (Rat.right_iff _ _).1 y
    have hM := Rat.M_eq
    have ha : -1000000000 ≤ a ∧ a ≤ 1000000000 := ⟨by have := hx.n0; omega, by have := hx.nM; omega⟩
    have hb : -1000000000 ≤ b ∧ b ≤ 1000000000 := ⟨by have := hx.d1; omega, by have := hx.dM; omega⟩
    have hc : -1000000000 ≤ c ∧ c ≤ 1000000000 := ⟨by have := hy.n0; omega, by have := hy.nM; omega⟩
    have hd : -1000000000 ≤ d ∧ d ≤ 1000000000 := ⟨by have := hy.d1; omega, by have := hy.dM; omega⟩
    rw [sumW_neg ha hb hc hd, mulW_eq hb hd] at this
    exact this

set_option maxRecDepth 100000 in
set_option maxHeartbeats 2000000 in
theorem mul_raw (a b c d : Int) (w : World) :
    Calls Try.prog 27 #[rt a b, rt c d] w fun e w' => e = .returned (rv (binN (Rat.right a b && Rat.right c d) (mulW a c) (mulW b d)) (binD (Rat.right a b && Rat.right c d) (mulW a c) (mulW b d)) (binE (Rat.right a b && Rat.right c d) (mulW a c) (mulW b d))) ∧ Below w.heap.size w w' := by
  go_enter Try.func27, Try.ntmps27
  go_wp2_with fail
  obtain ⟨c3, c4, c5, c6, c7, c8, f7, f8, hB⟩ := three_new w a b c d 26
  generalize ((w.alloc (.cells #[.int .i64 a, .int .i64 b] 26)).alloc (.cells #[.int .i64 c, .int .i64 d] 26)).alloc (.cells #[.int .i64 0, .int .i64 0] 26) = w2 at *
  have c9 : w2.cell? ⟨w.heap.size + 1 + 1, 0, none⟩ = some (heldAt w2 ⟨w.heap.size + 1 + 1, 0, none⟩) := held_of c7
  have c10 : w2.cell? ⟨w.heap.size + 1 + 1, 1, none⟩ = some (heldAt w2 ⟨w.heap.size + 1 + 1, 1, none⟩) := held_of c8
  clear c7 c8
  go_region_held3 (fun w' => w'.cell? ⟨w.heap.size, 0, none⟩ = some (.int .i64 a) ∧ w'.cell? ⟨w.heap.size, 1, none⟩ = some (.int .i64 b) ∧ w'.cell? ⟨w.heap.size + 1, 0, none⟩ = some (.int .i64 c) ∧ w'.cell? ⟨w.heap.size + 1, 1, none⟩ = some (.int .i64 d) ∧ w'.cell? ⟨w.heap.size + 1 + 1, 0, none⟩ = some (heldAt w' ⟨w.heap.size + 1 + 1, 0, none⟩) ∧ w'.cell? ⟨w.heap.size + 1 + 1, 1, none⟩ = some (heldAt w' ⟨w.heap.size + 1 + 1, 1, none⟩) ∧ w'.frozen? ⟨w.heap.size + 1 + 1, 0, none⟩ = false ∧ w'.frozen? ⟨w.heap.size + 1 + 1, 1, none⟩ = false ∧ Below w.heap.size w w')
    (((try go_split_ands); refine ⟨?_, ?_, ?_, ?_, ?_, ?_, ?_, ?_, ?_⟩ <;> first | (refine cell_later hq ?_; assumption) | (refine held_later hq ?_; assumption) | (refine frozen_held hq ?_ ?_ <;> assumption) | (refine below_two ?_ hq; assumption) | exact c3 | exact c4 | exact c5 | exact c6 | exact f7 | exact f8 | exact hB.drew | exact held_of (w := w2.drew) c9 | exact held_of (w := w2.drew) c10 | (refine stored_far ?_ ?_; omega; assumption) | (refine stored_held ?_; assumption) | (refine stored_frozen ?_; assumption) | (refine stored_below ?_ ?_; assumption; omega)))
    (first
      | (go_at_call 50; refine (product_any _).mono ?_; rintro e w' ⟨rfl, hq⟩)
      | (go_at_call 48; refine (apply_product _ _ _ _ _).mono ?_; rintro e w' ⟨rfl, hq⟩))
  rename_i u1 q1 hS
  obtain ⟨-, -, -, -, -, -, -, -, hBl⟩ := hS
  have m0 := stored_0 (x := .int .i64 (binN (Rat.right a b && Rat.right c d) (mulW a c) (mulW b d))) (y := .int .i64 (binD (Rat.right a b && Rat.right c d) (mulW a c) (mulW b d))) (held_later hq (held_later q1 (held_of (w := w2.drew) c9)))
  have m1 := stored_1 (x := .int .i64 (binN (Rat.right a b && Rat.right c d) (mulW a c) (mulW b d))) (y := .int .i64 (binD (Rat.right a b && Rat.right c d) (mulW a c) (mulW b d))) (held_later hq (held_later q1 (held_of (w := w2.drew) c10)))
  go_wp2
  exact bodyPost_ret (v := rv (binN (Rat.right a b && Rat.right c d) (mulW a c) (mulW b d)) (binD (Rat.right a b && Rat.right c d) (mulW a c) (mulW b d)) (binE (Rat.right a b && Rat.right c d) (mulW a c) (mulW b d))) (by simp [results, Try.results27, go_sem, m0, m1]) rfl ⟨rfl, hBl⟩

theorem mul_any (a b c d : Int) (w : World) :
    Calls Try.prog 27 #[rt a b, rt c d] w fun e w' => e = .returned (rv (binN (Rat.right a b && Rat.right c d) (a * c) (b * d)) (binD (Rat.right a b && Rat.right c d) (a * c) (b * d)) (binE (Rat.right a b && Rat.right c d) (a * c) (b * d))) ∧ Below w.heap.size w w' := by
  cases h1 : (Rat.right a b && Rat.right c d)
  · have := mul_raw a b c d w
    rw [h1, binN_no, binD_no, binE_no] at this
    rw [binN_no, binD_no, binE_no]
    exact this
  · have := mul_raw a b c d w
    rw [h1] at this
    obtain ⟨x, y⟩ := (Bool.and_eq_true _ _).mp h1
    have hx := (Rat.right_iff _ _).1 x
    have hy := (Rat.right_iff _ _).1 y
    have hM := Rat.M_eq
    have ha : -1000000000 ≤ a ∧ a ≤ 1000000000 := ⟨by have := hx.n0; omega, by have := hx.nM; omega⟩
    have hb : -1000000000 ≤ b ∧ b ≤ 1000000000 := ⟨by have := hx.d1; omega, by have := hx.dM; omega⟩
    have hc : -1000000000 ≤ c ∧ c ≤ 1000000000 := ⟨by have := hy.n0; omega, by have := hy.nM; omega⟩
    have hd : -1000000000 ≤ d ∧ d ≤ 1000000000 := ⟨by have := hy.d1; omega, by have := hy.dM; omega⟩
    rw [mulW_eq ha hc, mulW_eq hb hd] at this
    exact this

end Go.Proofs.Ytlodhfdikglgoaa
