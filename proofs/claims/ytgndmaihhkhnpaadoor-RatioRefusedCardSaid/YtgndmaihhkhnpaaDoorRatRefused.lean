/-
  RatioRefused holds: the law's walk.
-/
import Derived.Test.YtgndmaihhkhnpaaDoorRatFacts
namespace Go.Proofs.YtgndmaihhkhnpaaDoor
open Go.RowKit

theorem great_ex (w : World) : Calls Tryd.prog 20 #[rt 1000000000 1, rt 1 1] w fun e w' => e = .returned (rv 0 0 10) ∧ Below w.heap.size w w' := by
  have h := add_any 1000000000 1 1 1 w
  rw [show binN (Rat.right 1000000000 1 && Rat.right 1 1) (1000000000 * 1 + 1 * 1) (1 * 1) = 0 from by decide +kernel, show binD (Rat.right 1000000000 1 && Rat.right 1 1) (1000000000 * 1 + 1 * 1) (1 * 1) = 0 from by decide +kernel, show binE (Rat.right 1000000000 1 && Rat.right 1 1) (1000000000 * 1 + 1 * 1) (1 * 1) = 10 from by decide +kernel] at h
  exact h
theorem small_ex (w : World) : Calls Tryd.prog 21 #[rt 1 1000000000, rt 1 2] w fun e w' => e = .returned (rv 0 0 10) ∧ Below w.heap.size w w' := by
  have h := mul_any 1 1000000000 1 2 w
  rw [show binN (Rat.right 1 1000000000 && Rat.right 1 2) (1 * 1) (1000000000 * 2) = 0 from by decide +kernel, show binD (Rat.right 1 1000000000 && Rat.right 1 2) (1 * 1) (1000000000 * 2) = 0 from by decide +kernel, show binE (Rat.right 1 1000000000 && Rat.right 1 2) (1 * 1) (1000000000 * 2) = 10 from by decide +kernel] at h
  exact h

set_option maxRecDepth 100000 in
set_option maxHeartbeats 4000000 in
theorem refused_w1 (a b c d xn xd fl : Int) (T : List UInt8) (w : World) (hR : Ready w) (HX : Hid (∀ w, Calls Tryd.prog 17 #[rt c d] w fun e w' => e = .returned (rt xn xd) ∧ Below w.heap.size w w')) (H1 : Hid (binN (Rat.right a b && Rat.right xn xd) (a * xd + xn * b) (b * xd) = 0 ∧ binD (Rat.right a b && Rat.right xn xd) (a * xd + xn * b) (b * xd) = 0 ∧ binE (Rat.right a b && Rat.right xn xd) (a * xd + xn * b) (b * xd) = 10)) (H2 : Hid (binN (Rat.right xn xd && Rat.right a b) (xn * a) (xd * b) = 0 ∧ binD (Rat.right xn xd && Rat.right a b) (xn * a) (xd * b) = 0 ∧ binE (Rat.right xn xd && Rat.right a b) (xn * a) (xd * b) = 10)) (HT : Hid (txtV (Rat.right a b) a b = T ∧ floorE (Rat.right a b) = 10)) (HF : Hid (floorV (Rat.right a b) a b = fl)) (hr : Rat.right a b = false) (HC : Hid (cmpV (Rat.right a b && Rat.right xn xd) (a * xd - xn * b) = 0)) : Calls Tryd.prog 10 #[rt a b, rt c d] w fun e w' => e = .returned (.bool true) ∧ Below w.heap.size w w' := by
  have hgR := guardR
  have heq := eql_rt
  have hself := eqR_self
  have hB0 : Below w.heap.size w w := Below.refl _ _
  go_enter Tryd.func10, Tryd.ntmps10
  go_wp2_with fail
  have hR' := hR.below (((Below.refl _ _).alloc (Nat.le_refl _) (.cells #[.int .i64 a, .int .i64 b] 23)).alloc (by simp) (.cells #[.int .i64 c, .int .i64 d] 23))
  refine (examples_any _ hR').mono ?_
  rintro e w1 ⟨rfl, hb1⟩
  have hs1 : Below w.heap.size w w1 := Below.trans (by repeat (first | exact Below.refl _ _ | refine Below.alloc ?_ (by simp <;> omega) _)) (hb1.mono (by simp <;> omega))
  have c_p_0 : w1.cell? ⟨w.heap.size, 0, none⟩ = some (.int .i64 (a)) := (hb1.cell (by simp <;> omega)).trans (by go_simp)
  have c_p_1 : w1.cell? ⟨w.heap.size, 1, none⟩ = some (.int .i64 (b)) := (hb1.cell (by simp <;> omega)).trans (by go_simp)
  have c_p2_0 : w1.cell? ⟨w.heap.size + 1, 0, none⟩ = some (.int .i64 (c)) := (hb1.cell (by simp <;> omega)).trans (by go_simp)
  have c_p2_1 : w1.cell? ⟨w.heap.size + 1, 1, none⟩ = some (.int .i64 (d)) := (hb1.cell (by simp <;> omega)).trans (by go_simp)
  have z_p := World.block_lt_of_cell? _ _ c_p_0
  have z_p2 := World.block_lt_of_cell? _ _ c_p2_0
  have hB1 := below_two hB0 hs1
  replace hR := hR.below hs1
  clear hB0 hs1 hb1
  clear hR'
  go_wp2_with fail
  refine (HX.out _).mono ?_
  rintro e w2 ⟨rfl, hb2⟩
  have hs2 := hb2
  replace c_p_0 := cell_later hs2 c_p_0
  replace c_p_1 := cell_later hs2 c_p_1
  replace c_p2_0 := cell_later hs2 c_p2_0
  replace c_p2_1 := cell_later hs2 c_p2_1
  clear z_p
  have z_p := World.block_lt_of_cell? _ _ c_p_0
  clear z_p2
  have z_p2 := World.block_lt_of_cell? _ _ c_p2_0
  have hB2 := below_two hB1 hs2
  replace hR := hR.below hs2
  clear hB1 hs2
  go_wp2_with fail
  refine (add_any _ _ _ _ _).mono ?_
  rintro e w3 ⟨rfl, hb3⟩
  have hs3 : Below w2.heap.size w2 w3 := Below.trans (by repeat (first | exact Below.refl _ _ | refine Below.alloc ?_ (by simp <;> omega) _)) (hb3.mono (by simp <;> omega))
  clear c_p2_0
  clear c_p2_1
  replace c_p_0 := cell_later hs3 c_p_0
  replace c_p_1 := cell_later hs3 c_p_1
  have c_x_0 : w3.cell? ⟨w2.heap.size, 0, none⟩ = some (.int .i64 (xn)) := (hb3.cell (by simp <;> omega)).trans (by go_simp)
  have c_x_1 : w3.cell? ⟨w2.heap.size, 1, none⟩ = some (.int .i64 (xd)) := (hb3.cell (by simp <;> omega)).trans (by go_simp)
  clear z_p
  have z_p := World.block_lt_of_cell? _ _ c_p_0
  have z_x := World.block_lt_of_cell? _ _ c_x_0
  clear z_p2
  have hB3 := below_two hB2 hs3
  replace hR := hR.below hs3
  clear hB2 hs3 hb3
  rw [H1.out.1, H1.out.2.1, H1.out.2.2]
  go_wp2_with fail
  refine (mul_any _ _ _ _ _).mono ?_
  rintro e w4 ⟨rfl, hb4⟩
  have hs4 : Below w3.heap.size w3 w4 := Below.trans (by repeat (first | exact Below.refl _ _ | refine Below.alloc ?_ (by simp <;> omega) _)) (hb4.mono (by simp <;> omega))
  replace c_p_0 := cell_later hs4 c_p_0
  replace c_p_1 := cell_later hs4 c_p_1
  replace c_x_0 := cell_later hs4 c_x_0
  replace c_x_1 := cell_later hs4 c_x_1
  clear z_p
  have z_p := World.block_lt_of_cell? _ _ c_p_0
  clear z_x
  have z_x := World.block_lt_of_cell? _ _ c_x_0
  have hB4 := below_two hB3 hs4
  replace hR := hR.below hs4
  clear hB3 hs4 hb4
  rw [H2.out.1, H2.out.2.1, H2.out.2.2]
  go_wp2_with fail
  have hR' := hR.below ((Below.refl _ _).alloc (Nat.le_refl _) (.cells #[.int .i64 0, .int .i64 0] 23))
  refine (text_any _ _ _ hR').mono ?_
  rintro e w5 ⟨rfl, hb5⟩
  have hs5 : Below w4.heap.size w4 w5 := Below.trans (by repeat (first | exact Below.refl _ _ | refine Below.alloc ?_ (by simp <;> omega) _)) (hb5.mono (by simp <;> omega))
  replace c_p_0 := cell_later hs5 c_p_0
  replace c_p_1 := cell_later hs5 c_p_1
  replace c_x_0 := cell_later hs5 c_x_0
  replace c_x_1 := cell_later hs5 c_x_1
  clear z_p
  have z_p := World.block_lt_of_cell? _ _ c_p_0
  clear z_x
  have z_x := World.block_lt_of_cell? _ _ c_x_0
  have hB5 := below_two hB4 hs5
  replace hR := hR.below hs5
  clear hB4 hs5 hb5
  clear hR'
  rw [HT.out.1, HT.out.2]
  go_wp2_with fail
  refine (floor_any _ _ _).mono ?_
  rintro e w6 ⟨rfl, hb6⟩
  have hs6 := hb6
  replace c_p_0 := cell_later hs6 c_p_0
  replace c_p_1 := cell_later hs6 c_p_1
  replace c_x_0 := cell_later hs6 c_x_0
  replace c_x_1 := cell_later hs6 c_x_1
  clear z_p
  have z_p := World.block_lt_of_cell? _ _ c_p_0
  clear z_x
  have z_x := World.block_lt_of_cell? _ _ c_x_0
  have hB6 := below_two hB5 hs6
  replace hR := hR.below hs6
  clear hB5 hs6
  rw [HF.out, HT.out.2]
  go_wp2_with fail
  refine (ratio_right _ _ _).mono ?_
  rintro e w7 ⟨rfl, hb7⟩
  have hs7 := hb7
  replace c_p_0 := cell_later hs7 c_p_0
  replace c_p_1 := cell_later hs7 c_p_1
  replace c_x_0 := cell_later hs7 c_x_0
  replace c_x_1 := cell_later hs7 c_x_1
  clear z_p
  have z_p := World.block_lt_of_cell? _ _ c_p_0
  clear z_x
  have z_x := World.block_lt_of_cell? _ _ c_x_0
  have hB7 := below_two hB6 hs7
  replace hR := hR.below hs7
  clear hB6 hs7
  rw [hr]
  go_wp2_with fail
  refine (compare_any _ _ _ _ _).mono ?_
  rintro e w8 ⟨rfl, hb8⟩
  have hs8 := hb8
  replace c_p_0 := cell_later hs8 c_p_0
  replace c_p_1 := cell_later hs8 c_p_1
  replace c_x_0 := cell_later hs8 c_x_0
  replace c_x_1 := cell_later hs8 c_x_1
  clear z_p
  have z_p := World.block_lt_of_cell? _ _ c_p_0
  clear z_x
  have z_x := World.block_lt_of_cell? _ _ c_x_0
  have hB8 := below_two hB7 hs8
  clear hB7 hs8
  rw [HC.out]
  go_wp2
  go_ret
  exact ⟨rfl, hB8⟩

set_option maxRecDepth 100000 in
set_option maxHeartbeats 4000000 in
theorem refused_w2 (a b c d xn xd fl sn sd e mn md f : Int) (T : List UInt8) (w : World) (hR : Ready w) (HX : Hid (∀ w, Calls Tryd.prog 17 #[rt c d] w fun e w' => e = .returned (rt xn xd) ∧ Below w.heap.size w w')) (H1 : Hid (binN (Rat.right a b && Rat.right xn xd) (a * xd + xn * b) (b * xd) = sn ∧ binD (Rat.right a b && Rat.right xn xd) (a * xd + xn * b) (b * xd) = sd ∧ binE (Rat.right a b && Rat.right xn xd) (a * xd + xn * b) (b * xd) = e)) (H2 : Hid (binN (Rat.right xn xd && Rat.right a b) (xn * a) (xd * b) = mn ∧ binD (Rat.right xn xd && Rat.right a b) (xn * a) (xd * b) = md ∧ binE (Rat.right xn xd && Rat.right a b) (xn * a) (xd * b) = f)) (HT : Hid (txtV (Rat.right a b) a b = T ∧ floorE (Rat.right a b) = 0)) (HF : Hid (floorV (Rat.right a b) a b = fl)) (hr : Rat.right a b = true) (H3 : Hid (binN (Rat.right a b && Rat.right 0 1) (a * 1 + 0 * b) (b * 1) = a ∧ binD (Rat.right a b && Rat.right 0 1) (a * 1 + 0 * b) (b * 1) = b ∧ binE (Rat.right a b && Rat.right 0 1) (a * 1 + 0 * b) (b * 1) = 0)) (H4 : Hid (binN (Rat.right a b && Rat.right 1 1) (a * 1) (b * 1) = a ∧ binD (Rat.right a b && Rat.right 1 1) (a * 1) (b * 1) = b ∧ binE (Rat.right a b && Rat.right 1 1) (a * 1) (b * 1) = 0)) : Calls Tryd.prog 10 #[rt a b, rt c d] w fun e w' => e = .returned (.bool true) ∧ Below w.heap.size w w' := by
  have hgR := guardR
  have heq := eql_rt
  have hself := eqR_self
  have hB0 : Below w.heap.size w w := Below.refl _ _
  go_enter Tryd.func10, Tryd.ntmps10
  go_wp2_with fail
  have hR' := hR.below (((Below.refl _ _).alloc (Nat.le_refl _) (.cells #[.int .i64 a, .int .i64 b] 23)).alloc (by simp) (.cells #[.int .i64 c, .int .i64 d] 23))
  refine (examples_any _ hR').mono ?_
  rintro e w1 ⟨rfl, hb1⟩
  have hs1 : Below w.heap.size w w1 := Below.trans (by repeat (first | exact Below.refl _ _ | refine Below.alloc ?_ (by simp <;> omega) _)) (hb1.mono (by simp <;> omega))
  have c_p_0 : w1.cell? ⟨w.heap.size, 0, none⟩ = some (.int .i64 (a)) := (hb1.cell (by simp <;> omega)).trans (by go_simp)
  have c_p_1 : w1.cell? ⟨w.heap.size, 1, none⟩ = some (.int .i64 (b)) := (hb1.cell (by simp <;> omega)).trans (by go_simp)
  have c_p2_0 : w1.cell? ⟨w.heap.size + 1, 0, none⟩ = some (.int .i64 (c)) := (hb1.cell (by simp <;> omega)).trans (by go_simp)
  have c_p2_1 : w1.cell? ⟨w.heap.size + 1, 1, none⟩ = some (.int .i64 (d)) := (hb1.cell (by simp <;> omega)).trans (by go_simp)
  have z_p := World.block_lt_of_cell? _ _ c_p_0
  have z_p2 := World.block_lt_of_cell? _ _ c_p2_0
  have hB1 := below_two hB0 hs1
  replace hR := hR.below hs1
  clear hB0 hs1 hb1
  clear hR'
  go_wp2_with fail
  refine (HX.out _).mono ?_
  rintro e w2 ⟨rfl, hb2⟩
  have hs2 := hb2
  replace c_p_0 := cell_later hs2 c_p_0
  replace c_p_1 := cell_later hs2 c_p_1
  replace c_p2_0 := cell_later hs2 c_p2_0
  replace c_p2_1 := cell_later hs2 c_p2_1
  clear z_p
  have z_p := World.block_lt_of_cell? _ _ c_p_0
  clear z_p2
  have z_p2 := World.block_lt_of_cell? _ _ c_p2_0
  have hB2 := below_two hB1 hs2
  replace hR := hR.below hs2
  clear hB1 hs2
  go_wp2_with fail
  refine (add_any _ _ _ _ _).mono ?_
  rintro e w3 ⟨rfl, hb3⟩
  have hs3 : Below w2.heap.size w2 w3 := Below.trans (by repeat (first | exact Below.refl _ _ | refine Below.alloc ?_ (by simp <;> omega) _)) (hb3.mono (by simp <;> omega))
  clear c_p2_0
  clear c_p2_1
  replace c_p_0 := cell_later hs3 c_p_0
  replace c_p_1 := cell_later hs3 c_p_1
  have c_x_0 : w3.cell? ⟨w2.heap.size, 0, none⟩ = some (.int .i64 (xn)) := (hb3.cell (by simp <;> omega)).trans (by go_simp)
  have c_x_1 : w3.cell? ⟨w2.heap.size, 1, none⟩ = some (.int .i64 (xd)) := (hb3.cell (by simp <;> omega)).trans (by go_simp)
  clear z_p
  have z_p := World.block_lt_of_cell? _ _ c_p_0
  have z_x := World.block_lt_of_cell? _ _ c_x_0
  clear z_p2
  have hB3 := below_two hB2 hs3
  replace hR := hR.below hs3
  clear hB2 hs3 hb3
  rw [H1.out.1, H1.out.2.1, H1.out.2.2]
  go_wp2_with fail
  refine (mul_any _ _ _ _ _).mono ?_
  rintro e w4 ⟨rfl, hb4⟩
  have hs4 : Below w3.heap.size w3 w4 := Below.trans (by repeat (first | exact Below.refl _ _ | refine Below.alloc ?_ (by simp <;> omega) _)) (hb4.mono (by simp <;> omega))
  replace c_p_0 := cell_later hs4 c_p_0
  replace c_p_1 := cell_later hs4 c_p_1
  replace c_x_0 := cell_later hs4 c_x_0
  replace c_x_1 := cell_later hs4 c_x_1
  clear z_p
  have z_p := World.block_lt_of_cell? _ _ c_p_0
  clear z_x
  have z_x := World.block_lt_of_cell? _ _ c_x_0
  have hB4 := below_two hB3 hs4
  replace hR := hR.below hs4
  clear hB3 hs4 hb4
  rw [H2.out.1, H2.out.2.1, H2.out.2.2]
  go_wp2_with fail
  have hR' := hR.below ((Below.refl _ _).alloc (Nat.le_refl _) (.cells #[.int .i64 mn, .int .i64 md] 23))
  refine (text_any _ _ _ hR').mono ?_
  rintro e w5 ⟨rfl, hb5⟩
  have hs5 : Below w4.heap.size w4 w5 := Below.trans (by repeat (first | exact Below.refl _ _ | refine Below.alloc ?_ (by simp <;> omega) _)) (hb5.mono (by simp <;> omega))
  replace c_p_0 := cell_later hs5 c_p_0
  replace c_p_1 := cell_later hs5 c_p_1
  replace c_x_0 := cell_later hs5 c_x_0
  replace c_x_1 := cell_later hs5 c_x_1
  clear z_p
  have z_p := World.block_lt_of_cell? _ _ c_p_0
  clear z_x
  have z_x := World.block_lt_of_cell? _ _ c_x_0
  have hB5 := below_two hB4 hs5
  replace hR := hR.below hs5
  clear hB4 hs5 hb5
  clear hR'
  rw [HT.out.1, HT.out.2]
  go_wp2_with fail
  refine (floor_any _ _ _).mono ?_
  rintro e w6 ⟨rfl, hb6⟩
  have hs6 := hb6
  replace c_p_0 := cell_later hs6 c_p_0
  replace c_p_1 := cell_later hs6 c_p_1
  replace c_x_0 := cell_later hs6 c_x_0
  replace c_x_1 := cell_later hs6 c_x_1
  clear z_p
  have z_p := World.block_lt_of_cell? _ _ c_p_0
  clear z_x
  have z_x := World.block_lt_of_cell? _ _ c_x_0
  have hB6 := below_two hB5 hs6
  replace hR := hR.below hs6
  clear hB5 hs6
  rw [HF.out, HT.out.2]
  go_wp2_with fail
  refine (ratio_right _ _ _).mono ?_
  rintro e w7 ⟨rfl, hb7⟩
  have hs7 := hb7
  replace c_p_0 := cell_later hs7 c_p_0
  replace c_p_1 := cell_later hs7 c_p_1
  replace c_x_0 := cell_later hs7 c_x_0
  replace c_x_1 := cell_later hs7 c_x_1
  clear z_p
  have z_p := World.block_lt_of_cell? _ _ c_p_0
  clear z_x
  have z_x := World.block_lt_of_cell? _ _ c_x_0
  have hB7 := below_two hB6 hs7
  replace hR := hR.below hs7
  clear hB6 hs7
  rw [hr]
  go_wp2_with fail
  refine (add_any _ _ _ _ _).mono ?_
  rintro e w8 ⟨rfl, hb8⟩
  have hs8 := hb8
  replace c_p_0 := cell_later hs8 c_p_0
  replace c_p_1 := cell_later hs8 c_p_1
  replace c_x_0 := cell_later hs8 c_x_0
  replace c_x_1 := cell_later hs8 c_x_1
  clear z_p
  have z_p := World.block_lt_of_cell? _ _ c_p_0
  clear z_x
  have z_x := World.block_lt_of_cell? _ _ c_x_0
  have hB8 := below_two hB7 hs8
  clear hB7 hs8
  rw [H3.out.1, H3.out.2.1, H3.out.2.2]
  go_wp2_with fail
  refine (mul_any _ _ _ _ _).mono ?_
  rintro e w9 ⟨rfl, hb9⟩
  have hs9 : Below w8.heap.size w8 w9 := Below.trans (by repeat (first | exact Below.refl _ _ | refine Below.alloc ?_ (by simp <;> omega) _)) (hb9.mono (by simp <;> omega))
  replace c_p_0 := cell_later hs9 c_p_0
  replace c_p_1 := cell_later hs9 c_p_1
  replace c_x_0 := cell_later hs9 c_x_0
  replace c_x_1 := cell_later hs9 c_x_1
  have c_s_0 : w9.cell? ⟨w8.heap.size, 0, none⟩ = some (.int .i64 (a)) := (hb9.cell (by simp <;> omega)).trans (by go_simp)
  have c_s_1 : w9.cell? ⟨w8.heap.size, 1, none⟩ = some (.int .i64 (b)) := (hb9.cell (by simp <;> omega)).trans (by go_simp)
  clear z_p
  have z_p := World.block_lt_of_cell? _ _ c_p_0
  have z_s := World.block_lt_of_cell? _ _ c_s_0
  clear z_x
  have z_x := World.block_lt_of_cell? _ _ c_x_0
  have hB9 := below_two hB8 hs9
  clear hB8 hs9 hb9
  rw [H4.out.1, H4.out.2.1, H4.out.2.2]
  go_wp2_with fail
  refine (great_ex _).mono ?_
  rintro e w10 ⟨rfl, hb10⟩
  have hs10 : Below w9.heap.size w9 w10 := Below.trans (by repeat (first | exact Below.refl _ _ | refine Below.alloc ?_ (by simp <;> omega) _)) (hb10.mono (by simp <;> omega))
  replace c_p_0 := cell_later hs10 c_p_0
  replace c_p_1 := cell_later hs10 c_p_1
  replace c_x_0 := cell_later hs10 c_x_0
  replace c_x_1 := cell_later hs10 c_x_1
  replace c_s_0 := cell_later hs10 c_s_0
  replace c_s_1 := cell_later hs10 c_s_1
  have c_m_0 : w10.cell? ⟨w9.heap.size, 0, none⟩ = some (.int .i64 (a)) := (hb10.cell (by simp <;> omega)).trans (by go_simp)
  have c_m_1 : w10.cell? ⟨w9.heap.size, 1, none⟩ = some (.int .i64 (b)) := (hb10.cell (by simp <;> omega)).trans (by go_simp)
  have z_m := World.block_lt_of_cell? _ _ c_m_0
  clear z_p
  have z_p := World.block_lt_of_cell? _ _ c_p_0
  clear z_s
  have z_s := World.block_lt_of_cell? _ _ c_s_0
  clear z_x
  have z_x := World.block_lt_of_cell? _ _ c_x_0
  have hB10 := below_two hB9 hs10
  clear hB9 hs10 hb10
  go_wp2_with fail
  refine (small_ex _).mono ?_
  rintro e w11 ⟨rfl, hb11⟩
  have hs11 : Below w10.heap.size w10 w11 := Below.trans (by repeat (first | exact Below.refl _ _ | refine Below.alloc ?_ (by simp <;> omega) _)) (hb11.mono (by simp <;> omega))
  replace c_p_0 := cell_later hs11 c_p_0
  replace c_p_1 := cell_later hs11 c_p_1
  replace c_x_0 := cell_later hs11 c_x_0
  replace c_x_1 := cell_later hs11 c_x_1
  replace c_s_0 := cell_later hs11 c_s_0
  replace c_s_1 := cell_later hs11 c_s_1
  replace c_m_0 := cell_later hs11 c_m_0
  replace c_m_1 := cell_later hs11 c_m_1
  have c_g_0 : w11.cell? ⟨w10.heap.size, 0, none⟩ = some (.int .i64 (0)) := (hb11.cell (by simp <;> omega)).trans (by go_simp)
  have c_g_1 : w11.cell? ⟨w10.heap.size, 1, none⟩ = some (.int .i64 (0)) := (hb11.cell (by simp <;> omega)).trans (by go_simp)
  have z_g := World.block_lt_of_cell? _ _ c_g_0
  clear z_m
  have z_m := World.block_lt_of_cell? _ _ c_m_0
  clear z_p
  have z_p := World.block_lt_of_cell? _ _ c_p_0
  clear z_s
  have z_s := World.block_lt_of_cell? _ _ c_s_0
  clear z_x
  have z_x := World.block_lt_of_cell? _ _ c_x_0
  have hB11 := below_two hB10 hs11
  clear hB10 hs11 hb11
  go_wp2
  go_ret
  exact ⟨rfl, (hB11.alloc hB11.size _)⟩

theorem bin_no (n d : Int) : binN false n d = 0 ∧ binD false n d = 0 ∧ binE false n d = 10 := ⟨rfl, rfl, rfl⟩
theorem ratioRefused_calls (a b c d : Int) (_ha : Rat.I64 a) (_hb : Rat.I64 b) (hc : Rat.I64 c) (hd : Rat.I64 d) (w : World) (hR : Ready w) : LawHolds 10 #[rt a b, rt c d] w := by
  obtain ⟨xn, xd, hx, hX⟩ := ratio_fix c d hc hd
  cases hr : Rat.right a b
  · have h1 : (Rat.right a b && Rat.right xn xd) = false := by rw [hr]; rfl
    have h2 : (Rat.right xn xd && Rat.right a b) = false := by rw [hr, Bool.and_false]
    exact refused_w1 a b c d xn xd _ _ w hR (Lib.hid hX) (Lib.hid (by rw [h1]; exact bin_no _ _)) (Lib.hid (by rw [h2]; exact bin_no _ _)) (Lib.hid ⟨rfl, by rw [hr]; rfl⟩) (Lib.hid rfl) hr (Lib.hid (by rw [h1]; rfl))
  · have h := (Rat.right_iff _ _).1 hr
    exact refused_w2 a b c d xn xd _ _ _ _ _ _ _ _ w hR (Lib.hid hX) (Lib.hid ⟨rfl, rfl, rfl⟩) (Lib.hid ⟨rfl, rfl, rfl⟩) (Lib.hid ⟨rfl, by rw [hr]; rfl⟩) (Lib.hid rfl) hr (Lib.hid (bin_eq h zero_right (mul_ne h.ne (by decide)) h (by grind))) (Lib.hid (bin_eq h unit_right (mul_ne h.ne (by decide)) h (by grind)))
end Go.Proofs.YtgndmaihhkhnpaaDoor
