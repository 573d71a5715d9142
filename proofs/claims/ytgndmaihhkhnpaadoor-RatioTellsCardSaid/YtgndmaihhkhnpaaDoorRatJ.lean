/-
  The contract of the statements' own examples().
-/
import Derived.Test.YtgndmaihhkhnpaaDoorRatI
namespace Go.Proofs.YtgndmaihhkhnpaaDoor
open Go.RowKit

theorem ex1 (w : World) : Calls Tryd.prog 12 #[.int .i64 6, .int .i64 (-8)] w fun e w' => e = .returned (rv (-3) (4) 0) ∧ Below w.heap.size w w' := by
  have h := of_any 6 (-8) w (by unfold Rat.I64; omega) (by unfold Rat.I64; omega)
  rw [show Rat.ofN 6 (-8) = -3 from by decide +kernel, show Rat.ofD 6 (-8) = 4 from by decide +kernel, show Rat.ofE 6 (-8) = 0 from by decide +kernel] at h
  exact h
theorem ex2 (w : World) : Calls Tryd.prog 12 #[.int .i64 1, .int .i64 0] w fun e w' => e = .returned (rv (0) (0) 11) ∧ Below w.heap.size w w' := by
  have h := of_any 1 0 w (by unfold Rat.I64; omega) (by unfold Rat.I64; omega)
  rw [show Rat.ofN 1 0 = 0 from by decide +kernel, show Rat.ofD 1 0 = 0 from by decide +kernel, show Rat.ofE 1 0 = 11 from by decide +kernel] at h
  exact h
theorem ex3 (w : World) : Calls Tryd.prog 12 #[.int .i64 1000000001, .int .i64 2] w fun e w' => e = .returned (rv (0) (0) 10) ∧ Below w.heap.size w w' := by
  have h := of_any 1000000001 2 w (by unfold Rat.I64; omega) (by unfold Rat.I64; omega)
  rw [show Rat.ofN 1000000001 2 = 0 from by decide +kernel, show Rat.ofD 1000000001 2 = 0 from by decide +kernel, show Rat.ofE 1000000001 2 = 10 from by decide +kernel] at h
  exact h
theorem ex4 (w : World) : Calls Tryd.prog 20 #[rt 1 4, rt 1 6] w fun e w' => e = .returned (rv (5) (12) 0) ∧ Below w.heap.size w w' := by
  have h := add_any 1 4 1 6 w
  rw [show binN (Rat.right 1 4 && Rat.right 1 6) (1 * 6 + 1 * 4) (4 * 6) = 5 from by decide +kernel, show binD (Rat.right 1 4 && Rat.right 1 6) (1 * 6 + 1 * 4) (4 * 6) = 12 from by decide +kernel, show binE (Rat.right 1 4 && Rat.right 1 6) (1 * 6 + 1 * 4) (4 * 6) = 0 from by decide +kernel] at h
  exact h
theorem ex5 (w : World) : Calls Tryd.prog 22 #[rt 1 4, rt 1 6] w fun e w' => e = .returned (rv (1) (12) 0) ∧ Below w.heap.size w w' := by
  have h := sub_any 1 4 1 6 w
  rw [show binN (Rat.right 1 4 && Rat.right 1 6) (1 * 6 - 1 * 4) (4 * 6) = 1 from by decide +kernel, show binD (Rat.right 1 4 && Rat.right 1 6) (1 * 6 - 1 * 4) (4 * 6) = 12 from by decide +kernel, show binE (Rat.right 1 4 && Rat.right 1 6) (1 * 6 - 1 * 4) (4 * 6) = 0 from by decide +kernel] at h
  exact h
theorem ex6 (w : World) : Calls Tryd.prog 21 #[rt 5 12, rt 3 1] w fun e w' => e = .returned (rv (5) (4) 0) ∧ Below w.heap.size w w' := by
  have h := mul_any 5 12 3 1 w
  rw [show binN (Rat.right 5 12 && Rat.right 3 1) (5 * 3) (12 * 1) = 5 from by decide +kernel, show binD (Rat.right 5 12 && Rat.right 3 1) (5 * 3) (12 * 1) = 4 from by decide +kernel, show binE (Rat.right 5 12 && Rat.right 3 1) (5 * 3) (12 * 1) = 0 from by decide +kernel] at h
  exact h
theorem ex7 (w : World) : Calls Tryd.prog 23 #[rt 5 12, rt (-5) 1] w fun e w' => e = .returned (rv (-1) (12) 0) ∧ Below w.heap.size w w' := by
  have h := div_any 5 12 (-5) 1 w
  rw [show binN (Rat.right 5 12 && Rat.right (-5) 1) (5 * 1) (12 * -5) = -1 from by decide +kernel, show binD (Rat.right 5 12 && Rat.right (-5) 1) (5 * 1) (12 * -5) = 12 from by decide +kernel, show binE (Rat.right 5 12 && Rat.right (-5) 1) (5 * 1) (12 * -5) = 0 from by decide +kernel] at h
  exact h
theorem ex8 (w : World) : Calls Tryd.prog 23 #[rt 5 12, rt 0 1] w fun e w' => e = .returned (rv (0) (0) 11) ∧ Below w.heap.size w w' := by
  have h := div_any 5 12 0 1 w
  rw [show binN (Rat.right 5 12 && Rat.right 0 1) (5 * 1) (12 * 0) = 0 from by decide +kernel, show binD (Rat.right 5 12 && Rat.right 0 1) (5 * 1) (12 * 0) = 0 from by decide +kernel, show binE (Rat.right 5 12 && Rat.right 0 1) (5 * 1) (12 * 0) = 11 from by decide +kernel] at h
  exact h
theorem ex9 (w : World) : Calls Tryd.prog 25 #[rt (-1) 2] w fun e w' => e = .returned (.tuple #[.int .i64 (-1), .int .i64 0]) ∧ Below w.heap.size w w' := by
  have h := floor_any (-1) 2 w
  rw [show floorV (Rat.right (-1) 2) (-1) 2 = -1 from by decide +kernel, show floorE (Rat.right (-1) 2) = 0 from by decide +kernel] at h
  exact h
theorem ex10 (w : World) (hR : Ready w) : Calls Tryd.prog 26 #[rt (-3) 4] w fun e w' => e = .returned (.tuple #[.string ⟨#[45, 51, 47, 52]⟩, .int .i64 0]) ∧ Below w.heap.size w w' := by
  have h := text_any (-3) 4 w hR
  rw [show (txtV (Rat.right (-3) 4) (-3) 4) = [45, 51, 47, 52] from by decide +kernel, show floorE (Rat.right (-3) 4) = 0 from by decide +kernel] at h
  exact h
theorem ex11 (w : World) (hR : Ready w) : Calls Tryd.prog 14 #[.string ⟨#[53, 47, 49, 50]⟩] w fun e w' => e = .returned (rv 5 12 0) ∧ Below w.heap.size w w' := by
  have h := read_any ⟨#[53, 47, 49, 50]⟩ w hR (by decide)
  rw [show rd (ByteArray.mk #[53, 47, 49, 50]).data.toList = some (5, 12) from by decide +kernel] at h
  exact h
theorem ex12 (w : World) (hR : Ready w) : Calls Tryd.prog 14 #[.string ⟨#[50, 47, 52]⟩] w fun e w' => e = .returned (rv 0 0 12) ∧ Below w.heap.size w w' := by
  have h := read_any ⟨#[50, 47, 52]⟩ w hR (by decide)
  rw [show rd (ByteArray.mk #[50, 47, 52]).data.toList = none from by decide +kernel] at h
  exact h
theorem ex13 (w : World) : Calls Tryd.prog 19 #[rt 5 12] w fun e w' => e = .returned (.bool true) ∧ Below w.heap.size w w' := by
  have h := ratio_right 5 12 w
  rw [show Rat.right 5 12 = true from by decide +kernel] at h
  exact h
theorem ex14 (w : World) : Calls Tryd.prog 19 #[rt 0 0] w fun e w' => e = .returned (.bool false) ∧ Below w.heap.size w w' := by
  have h := ratio_right 0 0 w
  rw [show Rat.right 0 0 = false from by decide +kernel] at h
  exact h
theorem ex15 (w : World) : Calls Tryd.prog 24 #[rt 1 12, rt 5 12] w fun e w' => e = .returned (.int .i64 (-1)) ∧ Below w.heap.size w w' := by
  have h := compare_any 1 12 5 12 w
  rw [show cmpV (Rat.right 1 12 && Rat.right 5 12) (1 * 12 - 5 * 12) = -1 from by decide +kernel] at h
  exact h
theorem ex16 (w : World) : Calls Tryd.prog 24 #[rt 5 12, rt 1 12] w fun e w' => e = .returned (.int .i64 1) ∧ Below w.heap.size w w' := by
  have h := compare_any 5 12 1 12 w
  rw [show cmpV (Rat.right 5 12 && Rat.right 1 12) (5 * 12 - 1 * 12) = 1 from by decide +kernel] at h
  exact h

set_option maxRecDepth 100000 in
set_option maxHeartbeats 4000000 in
theorem examples_any (w : World) (hR : Ready w) : Calls Tryd.prog 11 #[] w fun e w' => e = .returned (.bool true) ∧ Below w.heap.size w w' := by
  have hgR := guardR
  have heq := eql_rt
  have hself := eqR_self
  have hB0 : Below w.heap.size w w := Below.refl _ _
  go_enter Tryd.func11, Tryd.ntmps11
  go_wp2_with fail
  refine (ex1 _).mono ?_
  rintro e w1 ⟨rfl, hb1⟩
  have hs1 := hb1
  have hB1 := below_two hB0 hs1
  replace hR := hR.below hs1
  clear hB0 hs1
  go_wp2_with fail
  refine (ex2 _).mono ?_
  rintro e w2 ⟨rfl, hb2⟩
  have hs2 : Below w1.heap.size w1 w2 := Below.trans (by repeat (first | exact Below.refl _ _ | refine Below.alloc ?_ (by simp <;> omega) _)) (hb2.mono (by simp <;> omega))
  have c_a_0 : w2.cell? ⟨w1.heap.size, 0, none⟩ = some (.int .i64 (-3)) := (hb2.cell (by simp <;> omega)).trans (by go_simp)
  have c_a_1 : w2.cell? ⟨w1.heap.size, 1, none⟩ = some (.int .i64 4) := (hb2.cell (by simp <;> omega)).trans (by go_simp)
  have z_a := World.block_lt_of_cell? _ _ c_a_0
  have hB2 := below_two hB1 hs2
  replace hR := hR.below hs2
  clear hB1 hs2 hb2
  go_wp2_with fail
  refine (ex3 _).mono ?_
  rintro e w3 ⟨rfl, hb3⟩
  have hs3 : Below w2.heap.size w2 w3 := Below.trans (by repeat (first | exact Below.refl _ _ | refine Below.alloc ?_ (by simp <;> omega) _)) (hb3.mono (by simp <;> omega))
  replace c_a_0 := cell_later hs3 c_a_0
  replace c_a_1 := cell_later hs3 c_a_1
  clear z_a
  have z_a := World.block_lt_of_cell? _ _ c_a_0
  have hB3 := below_two hB2 hs3
  replace hR := hR.below hs3
  clear hB2 hs3 hb3
  go_wp2_with fail
  refine (ex4 _).mono ?_
  rintro e w4 ⟨rfl, hb4⟩
  have hs4 : Below w3.heap.size w3 w4 := Below.trans (by repeat (first | exact Below.refl _ _ | refine Below.alloc ?_ (by simp <;> omega) _)) (hb4.mono (by simp <;> omega))
  replace c_a_0 := cell_later hs4 c_a_0
  replace c_a_1 := cell_later hs4 c_a_1
  clear z_a
  have z_a := World.block_lt_of_cell? _ _ c_a_0
  have hB4 := below_two hB3 hs4
  replace hR := hR.below hs4
  clear hB3 hs4 hb4
  go_wp2_with fail
  refine (ex5 _).mono ?_
  rintro e w5 ⟨rfl, hb5⟩
  have hs5 : Below w4.heap.size w4 w5 := Below.trans (by repeat (first | exact Below.refl _ _ | refine Below.alloc ?_ (by simp <;> omega) _)) (hb5.mono (by simp <;> omega))
  replace c_a_0 := cell_later hs5 c_a_0
  replace c_a_1 := cell_later hs5 c_a_1
  have c_s_0 : w5.cell? ⟨w4.heap.size, 0, none⟩ = some (.int .i64 5) := (hb5.cell (by simp <;> omega)).trans (by go_simp)
  have c_s_1 : w5.cell? ⟨w4.heap.size, 1, none⟩ = some (.int .i64 12) := (hb5.cell (by simp <;> omega)).trans (by go_simp)
  clear z_a
  have z_a := World.block_lt_of_cell? _ _ c_a_0
  have z_s := World.block_lt_of_cell? _ _ c_s_0
  have hB5 := below_two hB4 hs5
  replace hR := hR.below hs5
  clear hB4 hs5 hb5
  go_wp2_with fail
  refine (ex6 _).mono ?_
  rintro e w6 ⟨rfl, hb6⟩
  have hs6 : Below w5.heap.size w5 w6 := Below.trans (by repeat (first | exact Below.refl _ _ | refine Below.alloc ?_ (by simp <;> omega) _)) (hb6.mono (by simp <;> omega))
  replace c_a_0 := cell_later hs6 c_a_0
  replace c_a_1 := cell_later hs6 c_a_1
  replace c_s_0 := cell_later hs6 c_s_0
  replace c_s_1 := cell_later hs6 c_s_1
  have c_d_0 : w6.cell? ⟨w5.heap.size, 0, none⟩ = some (.int .i64 1) := (hb6.cell (by simp <;> omega)).trans (by go_simp)
  have c_d_1 : w6.cell? ⟨w5.heap.size, 1, none⟩ = some (.int .i64 12) := (hb6.cell (by simp <;> omega)).trans (by go_simp)
  clear z_a
  have z_a := World.block_lt_of_cell? _ _ c_a_0
  have z_d := World.block_lt_of_cell? _ _ c_d_0
  clear z_s
  have z_s := World.block_lt_of_cell? _ _ c_s_0
  have hB6 := below_two hB5 hs6
  replace hR := hR.below hs6
  clear hB5 hs6 hb6
  go_wp2_with fail
  refine (ex7 _).mono ?_
  rintro e w7 ⟨rfl, hb7⟩
  have hs7 : Below w6.heap.size w6 w7 := Below.trans (by repeat (first | exact Below.refl _ _ | refine Below.alloc ?_ (by simp <;> omega) _)) (hb7.mono (by simp <;> omega))
  replace c_a_0 := cell_later hs7 c_a_0
  replace c_a_1 := cell_later hs7 c_a_1
  replace c_s_0 := cell_later hs7 c_s_0
  replace c_s_1 := cell_later hs7 c_s_1
  replace c_d_0 := cell_later hs7 c_d_0
  replace c_d_1 := cell_later hs7 c_d_1
  have c_m_0 : w7.cell? ⟨w6.heap.size, 0, none⟩ = some (.int .i64 5) := (hb7.cell (by simp <;> omega)).trans (by go_simp)
  have c_m_1 : w7.cell? ⟨w6.heap.size, 1, none⟩ = some (.int .i64 4) := (hb7.cell (by simp <;> omega)).trans (by go_simp)
  clear z_a
  have z_a := World.block_lt_of_cell? _ _ c_a_0
  clear z_d
  have z_d := World.block_lt_of_cell? _ _ c_d_0
  have z_m := World.block_lt_of_cell? _ _ c_m_0
  clear z_s
  have z_s := World.block_lt_of_cell? _ _ c_s_0
  have hB7 := below_two hB6 hs7
  replace hR := hR.below hs7
  clear hB6 hs7 hb7
  go_wp2_with fail
  refine (ex8 _).mono ?_
  rintro e w8 ⟨rfl, hb8⟩
  have hs8 : Below w7.heap.size w7 w8 := Below.trans (by repeat (first | exact Below.refl _ _ | refine Below.alloc ?_ (by simp <;> omega) _)) (hb8.mono (by simp <;> omega))
  replace c_a_0 := cell_later hs8 c_a_0
  replace c_a_1 := cell_later hs8 c_a_1
  replace c_s_0 := cell_later hs8 c_s_0
  replace c_s_1 := cell_later hs8 c_s_1
  replace c_d_0 := cell_later hs8 c_d_0
  replace c_d_1 := cell_later hs8 c_d_1
  replace c_m_0 := cell_later hs8 c_m_0
  replace c_m_1 := cell_later hs8 c_m_1
  have c_q_0 : w8.cell? ⟨w7.heap.size, 0, none⟩ = some (.int .i64 (-1)) := (hb8.cell (by simp <;> omega)).trans (by go_simp)
  have c_q_1 : w8.cell? ⟨w7.heap.size, 1, none⟩ = some (.int .i64 12) := (hb8.cell (by simp <;> omega)).trans (by go_simp)
  clear z_a
  have z_a := World.block_lt_of_cell? _ _ c_a_0
  clear z_d
  have z_d := World.block_lt_of_cell? _ _ c_d_0
  clear z_m
  have z_m := World.block_lt_of_cell? _ _ c_m_0
  have z_q := World.block_lt_of_cell? _ _ c_q_0
  clear z_s
  have z_s := World.block_lt_of_cell? _ _ c_s_0
  have hB8 := below_two hB7 hs8
  replace hR := hR.below hs8
  clear hB7 hs8 hb8
  go_wp2_with fail
  refine (ex9 _).mono ?_
  rintro e w9 ⟨rfl, hb9⟩
  have hs9 : Below w8.heap.size w8 w9 := Below.trans (by repeat (first | exact Below.refl _ _ | refine Below.alloc ?_ (by simp <;> omega) _)) (hb9.mono (by simp <;> omega))
  replace c_a_0 := cell_later hs9 c_a_0
  replace c_a_1 := cell_later hs9 c_a_1
  replace c_s_0 := cell_later hs9 c_s_0
  replace c_s_1 := cell_later hs9 c_s_1
  replace c_d_0 := cell_later hs9 c_d_0
  replace c_d_1 := cell_later hs9 c_d_1
  replace c_m_0 := cell_later hs9 c_m_0
  replace c_m_1 := cell_later hs9 c_m_1
  replace c_q_0 := cell_later hs9 c_q_0
  replace c_q_1 := cell_later hs9 c_q_1
  clear z_a
  have z_a := World.block_lt_of_cell? _ _ c_a_0
  clear z_d
  have z_d := World.block_lt_of_cell? _ _ c_d_0
  clear z_m
  have z_m := World.block_lt_of_cell? _ _ c_m_0
  clear z_q
  have z_q := World.block_lt_of_cell? _ _ c_q_0
  clear z_s
  have z_s := World.block_lt_of_cell? _ _ c_s_0
  have hB9 := below_two hB8 hs9
  replace hR := hR.below hs9
  clear hB8 hs9 hb9
  go_wp2_with fail
  refine (ex10 _ (by assumption)).mono ?_
  rintro e w10 ⟨rfl, hb10⟩
  have hs10 := hb10
  replace c_a_0 := cell_later hs10 c_a_0
  replace c_a_1 := cell_later hs10 c_a_1
  replace c_s_0 := cell_later hs10 c_s_0
  replace c_s_1 := cell_later hs10 c_s_1
  replace c_d_0 := cell_later hs10 c_d_0
  replace c_d_1 := cell_later hs10 c_d_1
  replace c_m_0 := cell_later hs10 c_m_0
  replace c_m_1 := cell_later hs10 c_m_1
  replace c_q_0 := cell_later hs10 c_q_0
  replace c_q_1 := cell_later hs10 c_q_1
  clear z_a
  have z_a := World.block_lt_of_cell? _ _ c_a_0
  clear z_d
  have z_d := World.block_lt_of_cell? _ _ c_d_0
  clear z_m
  have z_m := World.block_lt_of_cell? _ _ c_m_0
  clear z_q
  have z_q := World.block_lt_of_cell? _ _ c_q_0
  clear z_s
  have z_s := World.block_lt_of_cell? _ _ c_s_0
  have hB10 := below_two hB9 hs10
  replace hR := hR.below hs10
  clear hB9 hs10
  go_wp2_with fail
  refine (ex11 _ (by assumption)).mono ?_
  rintro e w11 ⟨rfl, hb11⟩
  have hs11 := hb11
  replace c_a_0 := cell_later hs11 c_a_0
  replace c_a_1 := cell_later hs11 c_a_1
  replace c_s_0 := cell_later hs11 c_s_0
  replace c_s_1 := cell_later hs11 c_s_1
  replace c_d_0 := cell_later hs11 c_d_0
  replace c_d_1 := cell_later hs11 c_d_1
  replace c_m_0 := cell_later hs11 c_m_0
  replace c_m_1 := cell_later hs11 c_m_1
  replace c_q_0 := cell_later hs11 c_q_0
  replace c_q_1 := cell_later hs11 c_q_1
  clear z_a
  have z_a := World.block_lt_of_cell? _ _ c_a_0
  clear z_d
  have z_d := World.block_lt_of_cell? _ _ c_d_0
  clear z_m
  have z_m := World.block_lt_of_cell? _ _ c_m_0
  clear z_q
  have z_q := World.block_lt_of_cell? _ _ c_q_0
  clear z_s
  have z_s := World.block_lt_of_cell? _ _ c_s_0
  have hB11 := below_two hB10 hs11
  replace hR := hR.below hs11
  clear hB10 hs11
  go_wp2_with fail
  have hR' := hR.below ((Below.refl _ _).alloc (Nat.le_refl _) (.cells #[.int .i64 5, .int .i64 12] 23))
  refine (ex12 _ hR').mono ?_
  rintro e w12 ⟨rfl, hb12⟩
  have hs12 : Below w11.heap.size w11 w12 := Below.trans (by repeat (first | exact Below.refl _ _ | refine Below.alloc ?_ (by simp <;> omega) _)) (hb12.mono (by simp <;> omega))
  replace c_a_0 := cell_later hs12 c_a_0
  replace c_a_1 := cell_later hs12 c_a_1
  replace c_s_0 := cell_later hs12 c_s_0
  replace c_s_1 := cell_later hs12 c_s_1
  replace c_d_0 := cell_later hs12 c_d_0
  replace c_d_1 := cell_later hs12 c_d_1
  replace c_m_0 := cell_later hs12 c_m_0
  replace c_m_1 := cell_later hs12 c_m_1
  replace c_q_0 := cell_later hs12 c_q_0
  replace c_q_1 := cell_later hs12 c_q_1
  have c_r_0 : w12.cell? ⟨w11.heap.size, 0, none⟩ = some (.int .i64 5) := (hb12.cell (by simp <;> omega)).trans (by go_simp)
  have c_r_1 : w12.cell? ⟨w11.heap.size, 1, none⟩ = some (.int .i64 12) := (hb12.cell (by simp <;> omega)).trans (by go_simp)
  clear z_a
  have z_a := World.block_lt_of_cell? _ _ c_a_0
  clear z_d
  have z_d := World.block_lt_of_cell? _ _ c_d_0
  clear z_m
  have z_m := World.block_lt_of_cell? _ _ c_m_0
  clear z_q
  have z_q := World.block_lt_of_cell? _ _ c_q_0
  have z_r := World.block_lt_of_cell? _ _ c_r_0
  clear z_s
  have z_s := World.block_lt_of_cell? _ _ c_s_0
  have hB12 := below_two hB11 hs12
  replace hR := hR.below hs12
  clear hB11 hs12 hb12
  go_wp2_with fail
  refine (ex13 _).mono ?_
  rintro e w13 ⟨rfl, hb13⟩
  have hs13 : Below w12.heap.size w12 w13 := Below.trans (by repeat (first | exact Below.refl _ _ | refine Below.alloc ?_ (by simp <;> omega) _)) (hb13.mono (by simp <;> omega))
  replace c_a_0 := cell_later hs13 c_a_0
  replace c_a_1 := cell_later hs13 c_a_1
  replace c_s_0 := cell_later hs13 c_s_0
  replace c_s_1 := cell_later hs13 c_s_1
  replace c_d_0 := cell_later hs13 c_d_0
  replace c_d_1 := cell_later hs13 c_d_1
  replace c_m_0 := cell_later hs13 c_m_0
  replace c_m_1 := cell_later hs13 c_m_1
  replace c_q_0 := cell_later hs13 c_q_0
  replace c_q_1 := cell_later hs13 c_q_1
  replace c_r_0 := cell_later hs13 c_r_0
  replace c_r_1 := cell_later hs13 c_r_1
  clear z_a
  have z_a := World.block_lt_of_cell? _ _ c_a_0
  clear z_d
  have z_d := World.block_lt_of_cell? _ _ c_d_0
  clear z_m
  have z_m := World.block_lt_of_cell? _ _ c_m_0
  clear z_q
  have z_q := World.block_lt_of_cell? _ _ c_q_0
  clear z_r
  have z_r := World.block_lt_of_cell? _ _ c_r_0
  clear z_s
  have z_s := World.block_lt_of_cell? _ _ c_s_0
  have hB13 := below_two hB12 hs13
  replace hR := hR.below hs13
  clear hB12 hs13 hb13
  go_wp2_with fail
  refine (ex14 _).mono ?_
  rintro e w14 ⟨rfl, hb14⟩
  have hs14 := hb14
  replace c_a_0 := cell_later hs14 c_a_0
  replace c_a_1 := cell_later hs14 c_a_1
  replace c_s_0 := cell_later hs14 c_s_0
  replace c_s_1 := cell_later hs14 c_s_1
  replace c_d_0 := cell_later hs14 c_d_0
  replace c_d_1 := cell_later hs14 c_d_1
  replace c_m_0 := cell_later hs14 c_m_0
  replace c_m_1 := cell_later hs14 c_m_1
  replace c_q_0 := cell_later hs14 c_q_0
  replace c_q_1 := cell_later hs14 c_q_1
  replace c_r_0 := cell_later hs14 c_r_0
  replace c_r_1 := cell_later hs14 c_r_1
  clear z_a
  have z_a := World.block_lt_of_cell? _ _ c_a_0
  clear z_d
  have z_d := World.block_lt_of_cell? _ _ c_d_0
  clear z_m
  have z_m := World.block_lt_of_cell? _ _ c_m_0
  clear z_q
  have z_q := World.block_lt_of_cell? _ _ c_q_0
  clear z_r
  have z_r := World.block_lt_of_cell? _ _ c_r_0
  clear z_s
  have z_s := World.block_lt_of_cell? _ _ c_s_0
  have hB14 := below_two hB13 hs14
  replace hR := hR.below hs14
  clear hB13 hs14
  go_wp2_with fail
  refine (ex15 _).mono ?_
  rintro e w15 ⟨rfl, hb15⟩
  have hs15 := hb15
  replace c_a_0 := cell_later hs15 c_a_0
  replace c_a_1 := cell_later hs15 c_a_1
  replace c_s_0 := cell_later hs15 c_s_0
  replace c_s_1 := cell_later hs15 c_s_1
  replace c_d_0 := cell_later hs15 c_d_0
  replace c_d_1 := cell_later hs15 c_d_1
  replace c_m_0 := cell_later hs15 c_m_0
  replace c_m_1 := cell_later hs15 c_m_1
  replace c_q_0 := cell_later hs15 c_q_0
  replace c_q_1 := cell_later hs15 c_q_1
  replace c_r_0 := cell_later hs15 c_r_0
  replace c_r_1 := cell_later hs15 c_r_1
  clear z_a
  have z_a := World.block_lt_of_cell? _ _ c_a_0
  clear z_d
  have z_d := World.block_lt_of_cell? _ _ c_d_0
  clear z_m
  have z_m := World.block_lt_of_cell? _ _ c_m_0
  clear z_q
  have z_q := World.block_lt_of_cell? _ _ c_q_0
  clear z_r
  have z_r := World.block_lt_of_cell? _ _ c_r_0
  clear z_s
  have z_s := World.block_lt_of_cell? _ _ c_s_0
  have hB15 := below_two hB14 hs15
  replace hR := hR.below hs15
  clear hB14 hs15
  go_wp2_with fail
  refine (ex16 _).mono ?_
  rintro e w16 ⟨rfl, hb16⟩
  have hs16 := hb16
  replace c_a_0 := cell_later hs16 c_a_0
  replace c_a_1 := cell_later hs16 c_a_1
  replace c_s_0 := cell_later hs16 c_s_0
  replace c_s_1 := cell_later hs16 c_s_1
  replace c_d_0 := cell_later hs16 c_d_0
  replace c_d_1 := cell_later hs16 c_d_1
  replace c_m_0 := cell_later hs16 c_m_0
  replace c_m_1 := cell_later hs16 c_m_1
  replace c_q_0 := cell_later hs16 c_q_0
  replace c_q_1 := cell_later hs16 c_q_1
  replace c_r_0 := cell_later hs16 c_r_0
  replace c_r_1 := cell_later hs16 c_r_1
  clear z_a
  have z_a := World.block_lt_of_cell? _ _ c_a_0
  clear z_d
  have z_d := World.block_lt_of_cell? _ _ c_d_0
  clear z_m
  have z_m := World.block_lt_of_cell? _ _ c_m_0
  clear z_q
  have z_q := World.block_lt_of_cell? _ _ c_q_0
  clear z_r
  have z_r := World.block_lt_of_cell? _ _ c_r_0
  clear z_s
  have z_s := World.block_lt_of_cell? _ _ c_s_0
  have hB16 := below_two hB15 hs16
  replace hR := hR.below hs16
  clear hB15 hs16
  go_wp2
  go_ret
  exact ⟨rfl, hB16⟩
end Go.Proofs.YtgndmaihhkhnpaaDoor
