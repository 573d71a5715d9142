/-
  RatioOrder holds: the law's walk, part 2.
-/
import Derived.Test.YtgndmaihhkhnpaaDoorRatOrder0
namespace Go.Proofs.YtgndmaihhkhnpaaDoor
open Go.RowKit

set_option maxRecDepth 100000 in
set_option maxHeartbeats 4000000 in
theorem order_mle_f (a0 b0 a1 b1 a2 b2 xn xd yn yd zn zd c3 c4 sn sd tn td f : Int) (w : World) (hR : Ready w) (HX : Hid (∀ w, Calls Tryd.prog 17 #[rt a0 b0] w fun e w' => e = .returned (rt xn xd) ∧ Below w.heap.size w w')) (HY : Hid (∀ w, Calls Tryd.prog 17 #[rt a1 b1] w fun e w' => e = .returned (rt yn yd) ∧ Below w.heap.size w w')) (HZ : Hid (∀ w, Calls Tryd.prog 17 #[rt a2 b2] w fun e w' => e = .returned (rt zn zd) ∧ Below w.heap.size w w')) (C1 : Hid (cmpV (Rat.right xn xd && Rat.right yn yd) (xn * yd - yn * xd) = -1)) (C2 : Hid (cmpV (Rat.right yn yd && Rat.right xn xd) (yn * xd - xn * yd) = 1)) (hq : eqR xn xd yn yd = false) (C3 : Hid (cmpV (Rat.right yn yd && Rat.right zn zd) (yn * zd - zn * yd) = c3)) (h3 : c3 ≤ 0) (C4 : Hid (cmpV (Rat.right xn xd && Rat.right zn zd) (xn * zd - zn * xd) = c4)) (h4 : c4 ≤ 0) (HS : Hid (binN (Rat.right xn xd && Rat.right zn zd) (xn * zd + zn * xd) (xd * zd) = sn ∧ binD (Rat.right xn xd && Rat.right zn zd) (xn * zd + zn * xd) (xd * zd) = sd ∧ binE (Rat.right xn xd && Rat.right zn zd) (xn * zd + zn * xd) (xd * zd) = 0)) (HT : Hid (binN (Rat.right yn yd && Rat.right zn zd) (yn * zd + zn * yd) (yd * zd) = tn ∧ binD (Rat.right yn yd && Rat.right zn zd) (yn * zd + zn * yd) (yd * zd) = td ∧ binE (Rat.right yn yd && Rat.right zn zd) (yn * zd + zn * yd) (yd * zd) = f)) (hf : (f != 0) = true) : Calls Tryd.prog 7 #[rt a0 b0, rt a1 b1, rt a2 b2] w fun e w' => e = .returned (.bool true) ∧ Below w.heap.size w w' := by
  have hgR := guardR
  have heq := eql_rt
  have hB0 : Below w.heap.size w w := Below.refl _ _
  go_enter Tryd.func7, Tryd.ntmps7
  go_wp2_with fail
  have hR' := hR.below ((((Below.refl _ _).alloc (Nat.le_refl _) (.cells #[.int .i64 a0, .int .i64 b0] 23)).alloc (by simp) (.cells #[.int .i64 a1, .int .i64 b1] 23)).alloc (by simp; omega) (.cells #[.int .i64 a2, .int .i64 b2] 23))
  refine (examples_any _ hR').mono ?_
  rintro e w1 ⟨rfl, hb1⟩
  have hs1 : Below w.heap.size w w1 := Below.trans (by repeat (first | exact Below.refl _ _ | refine Below.alloc ?_ (by simp <;> omega) _)) (hb1.mono (by simp <;> omega))
  have c_p0_0 : w1.cell? ⟨w.heap.size, 0, none⟩ = some (.int .i64 (a0)) := (hb1.cell (by simp <;> omega)).trans (by go_simp)
  have c_p0_1 : w1.cell? ⟨w.heap.size, 1, none⟩ = some (.int .i64 (b0)) := (hb1.cell (by simp <;> omega)).trans (by go_simp)
  have c_p1_0 : w1.cell? ⟨w.heap.size + 1, 0, none⟩ = some (.int .i64 (a1)) := (hb1.cell (by simp <;> omega)).trans (by go_simp)
  have c_p1_1 : w1.cell? ⟨w.heap.size + 1, 1, none⟩ = some (.int .i64 (b1)) := (hb1.cell (by simp <;> omega)).trans (by go_simp)
  have c_p2_0 : w1.cell? ⟨w.heap.size + 1 + 1, 0, none⟩ = some (.int .i64 (a2)) := (hb1.cell (by simp <;> omega)).trans (by go_simp)
  have c_p2_1 : w1.cell? ⟨w.heap.size + 1 + 1, 1, none⟩ = some (.int .i64 (b2)) := (hb1.cell (by simp <;> omega)).trans (by go_simp)
  have z_p0 := World.block_lt_of_cell? _ _ c_p0_0
  have z_p1 := World.block_lt_of_cell? _ _ c_p1_0
  have z_p2 := World.block_lt_of_cell? _ _ c_p2_0
  have hB1 := below_two hB0 hs1
  clear hB0 hs1 hb1
  clear hR' hR
  go_wp2_with fail
  refine (HX.out _).mono ?_
  rintro e w2 ⟨rfl, hb2⟩
  have hs2 := hb2
  clear c_p0_0
  clear c_p0_1
  replace c_p1_0 := cell_later hs2 c_p1_0
  replace c_p1_1 := cell_later hs2 c_p1_1
  replace c_p2_0 := cell_later hs2 c_p2_0
  replace c_p2_1 := cell_later hs2 c_p2_1
  clear z_p1
  have z_p1 := World.block_lt_of_cell? _ _ c_p1_0
  clear z_p2
  have z_p2 := World.block_lt_of_cell? _ _ c_p2_0
  clear z_p0
  have hB2 := below_two hB1 hs2
  clear hB1 hs2
  go_wp2_with fail
  refine (HY.out _).mono ?_
  rintro e w3 ⟨rfl, hb3⟩
  have hs3 : Below w2.heap.size w2 w3 := Below.trans (by repeat (first | exact Below.refl _ _ | refine Below.alloc ?_ (by simp <;> omega) _)) (hb3.mono (by simp <;> omega))
  clear c_p1_0
  clear c_p1_1
  replace c_p2_0 := cell_later hs3 c_p2_0
  replace c_p2_1 := cell_later hs3 c_p2_1
  have c_x_0 : w3.cell? ⟨w2.heap.size, 0, none⟩ = some (.int .i64 (xn)) := (hb3.cell (by simp <;> omega)).trans (by go_simp)
  have c_x_1 : w3.cell? ⟨w2.heap.size, 1, none⟩ = some (.int .i64 (xd)) := (hb3.cell (by simp <;> omega)).trans (by go_simp)
  clear z_p2
  have z_p2 := World.block_lt_of_cell? _ _ c_p2_0
  have z_x := World.block_lt_of_cell? _ _ c_x_0
  clear z_p1
  have hB3 := below_two hB2 hs3
  clear hB2 hs3 hb3
  go_wp2_with fail
  refine (HZ.out _).mono ?_
  rintro e w4 ⟨rfl, hb4⟩
  have hs4 : Below w3.heap.size w3 w4 := Below.trans (by repeat (first | exact Below.refl _ _ | refine Below.alloc ?_ (by simp <;> omega) _)) (hb4.mono (by simp <;> omega))
  clear c_p2_0
  clear c_p2_1
  replace c_x_0 := cell_later hs4 c_x_0
  replace c_x_1 := cell_later hs4 c_x_1
  have c_y_0 : w4.cell? ⟨w3.heap.size, 0, none⟩ = some (.int .i64 (yn)) := (hb4.cell (by simp <;> omega)).trans (by go_simp)
  have c_y_1 : w4.cell? ⟨w3.heap.size, 1, none⟩ = some (.int .i64 (yd)) := (hb4.cell (by simp <;> omega)).trans (by go_simp)
  clear z_x
  have z_x := World.block_lt_of_cell? _ _ c_x_0
  have z_y := World.block_lt_of_cell? _ _ c_y_0
  clear z_p2
  have hB4 := below_two hB3 hs4
  clear hB3 hs4 hb4
  go_wp2_with fail
  refine (compare_any _ _ _ _ _).mono ?_
  rintro e w5 ⟨rfl, hb5⟩
  have hs5 : Below w4.heap.size w4 w5 := Below.trans (by repeat (first | exact Below.refl _ _ | refine Below.alloc ?_ (by simp <;> omega) _)) (hb5.mono (by simp <;> omega))
  replace c_x_0 := cell_later hs5 c_x_0
  replace c_x_1 := cell_later hs5 c_x_1
  replace c_y_0 := cell_later hs5 c_y_0
  replace c_y_1 := cell_later hs5 c_y_1
  have c_z_0 : w5.cell? ⟨w4.heap.size, 0, none⟩ = some (.int .i64 (zn)) := (hb5.cell (by simp <;> omega)).trans (by go_simp)
  have c_z_1 : w5.cell? ⟨w4.heap.size, 1, none⟩ = some (.int .i64 (zd)) := (hb5.cell (by simp <;> omega)).trans (by go_simp)
  clear z_x
  have z_x := World.block_lt_of_cell? _ _ c_x_0
  clear z_y
  have z_y := World.block_lt_of_cell? _ _ c_y_0
  have z_z := World.block_lt_of_cell? _ _ c_z_0
  have hB5 := below_two hB4 hs5
  clear hB4 hs5 hb5
  rw [C1.out]
  go_wp2_with fail
  refine (compare_any _ _ _ _ _).mono ?_
  rintro e w6 ⟨rfl, hb6⟩
  have hs6 := hb6
  replace c_x_0 := cell_later hs6 c_x_0
  replace c_x_1 := cell_later hs6 c_x_1
  replace c_y_0 := cell_later hs6 c_y_0
  replace c_y_1 := cell_later hs6 c_y_1
  replace c_z_0 := cell_later hs6 c_z_0
  replace c_z_1 := cell_later hs6 c_z_1
  clear z_x
  have z_x := World.block_lt_of_cell? _ _ c_x_0
  clear z_y
  have z_y := World.block_lt_of_cell? _ _ c_y_0
  clear z_z
  have z_z := World.block_lt_of_cell? _ _ c_z_0
  have hB6 := below_two hB5 hs6
  clear hB5 hs6
  rw [C2.out]
  go_wp2_with fail
  refine (compare_any _ _ _ _ _).mono ?_
  rintro e w7 ⟨rfl, hb7⟩
  have hs7 := hb7
  replace c_x_0 := cell_later hs7 c_x_0
  replace c_x_1 := cell_later hs7 c_x_1
  replace c_y_0 := cell_later hs7 c_y_0
  replace c_y_1 := cell_later hs7 c_y_1
  replace c_z_0 := cell_later hs7 c_z_0
  replace c_z_1 := cell_later hs7 c_z_1
  clear z_x
  have z_x := World.block_lt_of_cell? _ _ c_x_0
  clear z_y
  have z_y := World.block_lt_of_cell? _ _ c_y_0
  clear z_z
  have z_z := World.block_lt_of_cell? _ _ c_z_0
  have hB7 := below_two hB6 hs7
  clear hB6 hs7
  rw [C3.out]
  go_wp2_with fail
  refine (compare_any _ _ _ _ _).mono ?_
  rintro e w8 ⟨rfl, hb8⟩
  have hs8 := hb8
  replace c_x_0 := cell_later hs8 c_x_0
  replace c_x_1 := cell_later hs8 c_x_1
  replace c_y_0 := cell_later hs8 c_y_0
  replace c_y_1 := cell_later hs8 c_y_1
  replace c_z_0 := cell_later hs8 c_z_0
  replace c_z_1 := cell_later hs8 c_z_1
  clear z_x
  have z_x := World.block_lt_of_cell? _ _ c_x_0
  clear z_y
  have z_y := World.block_lt_of_cell? _ _ c_y_0
  clear z_z
  have z_z := World.block_lt_of_cell? _ _ c_z_0
  have hB8 := below_two hB7 hs8
  clear hB7 hs8
  rw [C4.out]
  go_wp2_with fail
  refine (add_any _ _ _ _ _).mono ?_
  rintro e w9 ⟨rfl, hb9⟩
  have hs9 := hb9
  replace c_x_0 := cell_later hs9 c_x_0
  replace c_x_1 := cell_later hs9 c_x_1
  replace c_y_0 := cell_later hs9 c_y_0
  replace c_y_1 := cell_later hs9 c_y_1
  replace c_z_0 := cell_later hs9 c_z_0
  replace c_z_1 := cell_later hs9 c_z_1
  clear z_x
  have z_x := World.block_lt_of_cell? _ _ c_x_0
  clear z_y
  have z_y := World.block_lt_of_cell? _ _ c_y_0
  clear z_z
  have z_z := World.block_lt_of_cell? _ _ c_z_0
  have hB9 := below_two hB8 hs9
  clear hB8 hs9
  rw [HS.out.1, HS.out.2.1, HS.out.2.2]
  go_wp2_with fail
  refine (add_any _ _ _ _ _).mono ?_
  rintro e w10 ⟨rfl, hb10⟩
  have hs10 : Below w9.heap.size w9 w10 := Below.trans (by repeat (first | exact Below.refl _ _ | refine Below.alloc ?_ (by simp <;> omega) _)) (hb10.mono (by simp <;> omega))
  replace c_x_0 := cell_later hs10 c_x_0
  replace c_x_1 := cell_later hs10 c_x_1
  replace c_y_0 := cell_later hs10 c_y_0
  replace c_y_1 := cell_later hs10 c_y_1
  replace c_z_0 := cell_later hs10 c_z_0
  replace c_z_1 := cell_later hs10 c_z_1
  have c_s_0 : w10.cell? ⟨w9.heap.size, 0, none⟩ = some (.int .i64 (sn)) := (hb10.cell (by simp <;> omega)).trans (by go_simp)
  have c_s_1 : w10.cell? ⟨w9.heap.size, 1, none⟩ = some (.int .i64 (sd)) := (hb10.cell (by simp <;> omega)).trans (by go_simp)
  have z_s := World.block_lt_of_cell? _ _ c_s_0
  clear z_x
  have z_x := World.block_lt_of_cell? _ _ c_x_0
  clear z_y
  have z_y := World.block_lt_of_cell? _ _ c_y_0
  clear z_z
  have z_z := World.block_lt_of_cell? _ _ c_z_0
  have hB10 := below_two hB9 hs10
  clear hB9 hs10 hb10
  rw [HT.out.1, HT.out.2.1, HT.out.2.2]
  go_wp2_with fail
  refine (cmp_zero _ _ _).mono ?_
  rintro e w11 ⟨rfl, hb11⟩
  have hs11 : Below w10.heap.size w10 w11 := Below.trans (by repeat (first | exact Below.refl _ _ | refine Below.alloc ?_ (by simp <;> omega) _)) (hb11.mono (by simp <;> omega))
  clear c_y_0
  clear c_y_1
  clear c_z_0
  clear c_z_1
  clear c_s_0
  clear c_s_1
  replace c_x_0 := cell_later hs11 c_x_0
  replace c_x_1 := cell_later hs11 c_x_1
  clear z_x
  have z_x := World.block_lt_of_cell? _ _ c_x_0
  clear z_s
  clear z_y
  clear z_z
  have hB11 := below_two hB10 hs11
  clear hB10 hs11 hb11
  go_wp2_with fail
  refine (cmp_two _ _ _).mono ?_
  rintro e w12 ⟨rfl, hb12⟩
  have hs12 := hb12
  replace c_x_0 := cell_later hs12 c_x_0
  replace c_x_1 := cell_later hs12 c_x_1
  clear z_x
  have z_x := World.block_lt_of_cell? _ _ c_x_0
  have hB12 := below_two hB11 hs12
  clear hB11 hs12
  go_wp2
  go_ret
  exact ⟨rfl, hB12⟩

set_option maxRecDepth 100000 in
set_option maxHeartbeats 4000000 in
theorem order_mgt_f (a0 b0 a1 b1 a2 b2 xn xd yn yd zn zd c3 sn sd tn td f : Int) (w : World) (hR : Ready w) (HX : Hid (∀ w, Calls Tryd.prog 17 #[rt a0 b0] w fun e w' => e = .returned (rt xn xd) ∧ Below w.heap.size w w')) (HY : Hid (∀ w, Calls Tryd.prog 17 #[rt a1 b1] w fun e w' => e = .returned (rt yn yd) ∧ Below w.heap.size w w')) (HZ : Hid (∀ w, Calls Tryd.prog 17 #[rt a2 b2] w fun e w' => e = .returned (rt zn zd) ∧ Below w.heap.size w w')) (C1 : Hid (cmpV (Rat.right xn xd && Rat.right yn yd) (xn * yd - yn * xd) = -1)) (C2 : Hid (cmpV (Rat.right yn yd && Rat.right xn xd) (yn * xd - xn * yd) = 1)) (hq : eqR xn xd yn yd = false) (C3 : Hid (cmpV (Rat.right yn yd && Rat.right zn zd) (yn * zd - zn * yd) = c3)) (h3 : 0 < c3) (HS : Hid (binN (Rat.right xn xd && Rat.right zn zd) (xn * zd + zn * xd) (xd * zd) = sn ∧ binD (Rat.right xn xd && Rat.right zn zd) (xn * zd + zn * xd) (xd * zd) = sd ∧ binE (Rat.right xn xd && Rat.right zn zd) (xn * zd + zn * xd) (xd * zd) = 0)) (HT : Hid (binN (Rat.right yn yd && Rat.right zn zd) (yn * zd + zn * yd) (yd * zd) = tn ∧ binD (Rat.right yn yd && Rat.right zn zd) (yn * zd + zn * yd) (yd * zd) = td ∧ binE (Rat.right yn yd && Rat.right zn zd) (yn * zd + zn * yd) (yd * zd) = f)) (hf : (f != 0) = true) : Calls Tryd.prog 7 #[rt a0 b0, rt a1 b1, rt a2 b2] w fun e w' => e = .returned (.bool true) ∧ Below w.heap.size w w' := by
  have hgR := guardR
  have heq := eql_rt
  have hB0 : Below w.heap.size w w := Below.refl _ _
  go_enter Tryd.func7, Tryd.ntmps7
  go_wp2_with fail
  have hR' := hR.below ((((Below.refl _ _).alloc (Nat.le_refl _) (.cells #[.int .i64 a0, .int .i64 b0] 23)).alloc (by simp) (.cells #[.int .i64 a1, .int .i64 b1] 23)).alloc (by simp; omega) (.cells #[.int .i64 a2, .int .i64 b2] 23))
  refine (examples_any _ hR').mono ?_
  rintro e w1 ⟨rfl, hb1⟩
  have hs1 : Below w.heap.size w w1 := Below.trans (by repeat (first | exact Below.refl _ _ | refine Below.alloc ?_ (by simp <;> omega) _)) (hb1.mono (by simp <;> omega))
  have c_p0_0 : w1.cell? ⟨w.heap.size, 0, none⟩ = some (.int .i64 (a0)) := (hb1.cell (by simp <;> omega)).trans (by go_simp)
  have c_p0_1 : w1.cell? ⟨w.heap.size, 1, none⟩ = some (.int .i64 (b0)) := (hb1.cell (by simp <;> omega)).trans (by go_simp)
  have c_p1_0 : w1.cell? ⟨w.heap.size + 1, 0, none⟩ = some (.int .i64 (a1)) := (hb1.cell (by simp <;> omega)).trans (by go_simp)
  have c_p1_1 : w1.cell? ⟨w.heap.size + 1, 1, none⟩ = some (.int .i64 (b1)) := (hb1.cell (by simp <;> omega)).trans (by go_simp)
  have c_p2_0 : w1.cell? ⟨w.heap.size + 1 + 1, 0, none⟩ = some (.int .i64 (a2)) := (hb1.cell (by simp <;> omega)).trans (by go_simp)
  have c_p2_1 : w1.cell? ⟨w.heap.size + 1 + 1, 1, none⟩ = some (.int .i64 (b2)) := (hb1.cell (by simp <;> omega)).trans (by go_simp)
  have z_p0 := World.block_lt_of_cell? _ _ c_p0_0
  have z_p1 := World.block_lt_of_cell? _ _ c_p1_0
  have z_p2 := World.block_lt_of_cell? _ _ c_p2_0
  have hB1 := below_two hB0 hs1
  clear hB0 hs1 hb1
  clear hR' hR
  go_wp2_with fail
  refine (HX.out _).mono ?_
  rintro e w2 ⟨rfl, hb2⟩
  have hs2 := hb2
  clear c_p0_0
  clear c_p0_1
  replace c_p1_0 := cell_later hs2 c_p1_0
  replace c_p1_1 := cell_later hs2 c_p1_1
  replace c_p2_0 := cell_later hs2 c_p2_0
  replace c_p2_1 := cell_later hs2 c_p2_1
  clear z_p1
  have z_p1 := World.block_lt_of_cell? _ _ c_p1_0
  clear z_p2
  have z_p2 := World.block_lt_of_cell? _ _ c_p2_0
  clear z_p0
  have hB2 := below_two hB1 hs2
  clear hB1 hs2
  go_wp2_with fail
  refine (HY.out _).mono ?_
  rintro e w3 ⟨rfl, hb3⟩
  have hs3 : Below w2.heap.size w2 w3 := Below.trans (by repeat (first | exact Below.refl _ _ | refine Below.alloc ?_ (by simp <;> omega) _)) (hb3.mono (by simp <;> omega))
  clear c_p1_0
  clear c_p1_1
  replace c_p2_0 := cell_later hs3 c_p2_0
  replace c_p2_1 := cell_later hs3 c_p2_1
  have c_x_0 : w3.cell? ⟨w2.heap.size, 0, none⟩ = some (.int .i64 (xn)) := (hb3.cell (by simp <;> omega)).trans (by go_simp)
  have c_x_1 : w3.cell? ⟨w2.heap.size, 1, none⟩ = some (.int .i64 (xd)) := (hb3.cell (by simp <;> omega)).trans (by go_simp)
  clear z_p2
  have z_p2 := World.block_lt_of_cell? _ _ c_p2_0
  have z_x := World.block_lt_of_cell? _ _ c_x_0
  clear z_p1
  have hB3 := below_two hB2 hs3
  clear hB2 hs3 hb3
  go_wp2_with fail
  refine (HZ.out _).mono ?_
  rintro e w4 ⟨rfl, hb4⟩
  have hs4 : Below w3.heap.size w3 w4 := Below.trans (by repeat (first | exact Below.refl _ _ | refine Below.alloc ?_ (by simp <;> omega) _)) (hb4.mono (by simp <;> omega))
  clear c_p2_0
  clear c_p2_1
  replace c_x_0 := cell_later hs4 c_x_0
  replace c_x_1 := cell_later hs4 c_x_1
  have c_y_0 : w4.cell? ⟨w3.heap.size, 0, none⟩ = some (.int .i64 (yn)) := (hb4.cell (by simp <;> omega)).trans (by go_simp)
  have c_y_1 : w4.cell? ⟨w3.heap.size, 1, none⟩ = some (.int .i64 (yd)) := (hb4.cell (by simp <;> omega)).trans (by go_simp)
  clear z_x
  have z_x := World.block_lt_of_cell? _ _ c_x_0
  have z_y := World.block_lt_of_cell? _ _ c_y_0
  clear z_p2
  have hB4 := below_two hB3 hs4
  clear hB3 hs4 hb4
  go_wp2_with fail
  refine (compare_any _ _ _ _ _).mono ?_
  rintro e w5 ⟨rfl, hb5⟩
  have hs5 : Below w4.heap.size w4 w5 := Below.trans (by repeat (first | exact Below.refl _ _ | refine Below.alloc ?_ (by simp <;> omega) _)) (hb5.mono (by simp <;> omega))
  replace c_x_0 := cell_later hs5 c_x_0
  replace c_x_1 := cell_later hs5 c_x_1
  replace c_y_0 := cell_later hs5 c_y_0
  replace c_y_1 := cell_later hs5 c_y_1
  have c_z_0 : w5.cell? ⟨w4.heap.size, 0, none⟩ = some (.int .i64 (zn)) := (hb5.cell (by simp <;> omega)).trans (by go_simp)
  have c_z_1 : w5.cell? ⟨w4.heap.size, 1, none⟩ = some (.int .i64 (zd)) := (hb5.cell (by simp <;> omega)).trans (by go_simp)
  clear z_x
  have z_x := World.block_lt_of_cell? _ _ c_x_0
  clear z_y
  have z_y := World.block_lt_of_cell? _ _ c_y_0
  have z_z := World.block_lt_of_cell? _ _ c_z_0
  have hB5 := below_two hB4 hs5
  clear hB4 hs5 hb5
  rw [C1.out]
  go_wp2_with fail
  refine (compare_any _ _ _ _ _).mono ?_
  rintro e w6 ⟨rfl, hb6⟩
  have hs6 := hb6
  replace c_x_0 := cell_later hs6 c_x_0
  replace c_x_1 := cell_later hs6 c_x_1
  replace c_y_0 := cell_later hs6 c_y_0
  replace c_y_1 := cell_later hs6 c_y_1
  replace c_z_0 := cell_later hs6 c_z_0
  replace c_z_1 := cell_later hs6 c_z_1
  clear z_x
  have z_x := World.block_lt_of_cell? _ _ c_x_0
  clear z_y
  have z_y := World.block_lt_of_cell? _ _ c_y_0
  clear z_z
  have z_z := World.block_lt_of_cell? _ _ c_z_0
  have hB6 := below_two hB5 hs6
  clear hB5 hs6
  rw [C2.out]
  go_wp2_with fail
  refine (compare_any _ _ _ _ _).mono ?_
  rintro e w7 ⟨rfl, hb7⟩
  have hs7 := hb7
  replace c_x_0 := cell_later hs7 c_x_0
  replace c_x_1 := cell_later hs7 c_x_1
  replace c_y_0 := cell_later hs7 c_y_0
  replace c_y_1 := cell_later hs7 c_y_1
  replace c_z_0 := cell_later hs7 c_z_0
  replace c_z_1 := cell_later hs7 c_z_1
  clear z_x
  have z_x := World.block_lt_of_cell? _ _ c_x_0
  clear z_y
  have z_y := World.block_lt_of_cell? _ _ c_y_0
  clear z_z
  have z_z := World.block_lt_of_cell? _ _ c_z_0
  have hB7 := below_two hB6 hs7
  clear hB6 hs7
  rw [C3.out]
  go_wp2_with fail
  refine (add_any _ _ _ _ _).mono ?_
  rintro e w8 ⟨rfl, hb8⟩
  have hs8 := hb8
  replace c_x_0 := cell_later hs8 c_x_0
  replace c_x_1 := cell_later hs8 c_x_1
  replace c_y_0 := cell_later hs8 c_y_0
  replace c_y_1 := cell_later hs8 c_y_1
  replace c_z_0 := cell_later hs8 c_z_0
  replace c_z_1 := cell_later hs8 c_z_1
  clear z_x
  have z_x := World.block_lt_of_cell? _ _ c_x_0
  clear z_y
  have z_y := World.block_lt_of_cell? _ _ c_y_0
  clear z_z
  have z_z := World.block_lt_of_cell? _ _ c_z_0
  have hB8 := below_two hB7 hs8
  clear hB7 hs8
  rw [HS.out.1, HS.out.2.1, HS.out.2.2]
  go_wp2_with fail
  refine (add_any _ _ _ _ _).mono ?_
  rintro e w9 ⟨rfl, hb9⟩
  have hs9 : Below w8.heap.size w8 w9 := Below.trans (by repeat (first | exact Below.refl _ _ | refine Below.alloc ?_ (by simp <;> omega) _)) (hb9.mono (by simp <;> omega))
  replace c_x_0 := cell_later hs9 c_x_0
  replace c_x_1 := cell_later hs9 c_x_1
  replace c_y_0 := cell_later hs9 c_y_0
  replace c_y_1 := cell_later hs9 c_y_1
  replace c_z_0 := cell_later hs9 c_z_0
  replace c_z_1 := cell_later hs9 c_z_1
  have c_s_0 : w9.cell? ⟨w8.heap.size, 0, none⟩ = some (.int .i64 (sn)) := (hb9.cell (by simp <;> omega)).trans (by go_simp)
  have c_s_1 : w9.cell? ⟨w8.heap.size, 1, none⟩ = some (.int .i64 (sd)) := (hb9.cell (by simp <;> omega)).trans (by go_simp)
  have z_s := World.block_lt_of_cell? _ _ c_s_0
  clear z_x
  have z_x := World.block_lt_of_cell? _ _ c_x_0
  clear z_y
  have z_y := World.block_lt_of_cell? _ _ c_y_0
  clear z_z
  have z_z := World.block_lt_of_cell? _ _ c_z_0
  have hB9 := below_two hB8 hs9
  clear hB8 hs9 hb9
  rw [HT.out.1, HT.out.2.1, HT.out.2.2]
  go_wp2_with fail
  refine (cmp_zero _ _ _).mono ?_
  rintro e w10 ⟨rfl, hb10⟩
  have hs10 : Below w9.heap.size w9 w10 := Below.trans (by repeat (first | exact Below.refl _ _ | refine Below.alloc ?_ (by simp <;> omega) _)) (hb10.mono (by simp <;> omega))
  clear c_y_0
  clear c_y_1
  clear c_z_0
  clear c_z_1
  clear c_s_0
  clear c_s_1
  replace c_x_0 := cell_later hs10 c_x_0
  replace c_x_1 := cell_later hs10 c_x_1
  clear z_x
  have z_x := World.block_lt_of_cell? _ _ c_x_0
  clear z_s
  clear z_y
  clear z_z
  have hB10 := below_two hB9 hs10
  clear hB9 hs10 hb10
  go_wp2_with fail
  refine (cmp_two _ _ _).mono ?_
  rintro e w11 ⟨rfl, hb11⟩
  have hs11 := hb11
  replace c_x_0 := cell_later hs11 c_x_0
  replace c_x_1 := cell_later hs11 c_x_1
  clear z_x
  have z_x := World.block_lt_of_cell? _ _ c_x_0
  have hB11 := below_two hB10 hs11
  clear hB10 hs11
  go_wp2
  go_ret
  exact ⟨rfl, hB11⟩

set_option maxRecDepth 100000 in
set_option maxHeartbeats 4000000 in
theorem order_zle_f (a0 b0 a1 b1 a2 b2 xn xd yn yd zn zd c3 c4 sn sd tn td f : Int) (w : World) (hR : Ready w) (HX : Hid (∀ w, Calls Tryd.prog 17 #[rt a0 b0] w fun e w' => e = .returned (rt xn xd) ∧ Below w.heap.size w w')) (HY : Hid (∀ w, Calls Tryd.prog 17 #[rt a1 b1] w fun e w' => e = .returned (rt yn yd) ∧ Below w.heap.size w w')) (HZ : Hid (∀ w, Calls Tryd.prog 17 #[rt a2 b2] w fun e w' => e = .returned (rt zn zd) ∧ Below w.heap.size w w')) (C1 : Hid (cmpV (Rat.right xn xd && Rat.right yn yd) (xn * yd - yn * xd) = 0)) (C2 : Hid (cmpV (Rat.right yn yd && Rat.right xn xd) (yn * xd - xn * yd) = 0)) (hq : eqR xn xd yn yd = true) (C3 : Hid (cmpV (Rat.right yn yd && Rat.right zn zd) (yn * zd - zn * yd) = c3)) (h3 : c3 ≤ 0) (C4 : Hid (cmpV (Rat.right xn xd && Rat.right zn zd) (xn * zd - zn * xd) = c4)) (h4 : c4 ≤ 0) (HS : Hid (binN (Rat.right xn xd && Rat.right zn zd) (xn * zd + zn * xd) (xd * zd) = sn ∧ binD (Rat.right xn xd && Rat.right zn zd) (xn * zd + zn * xd) (xd * zd) = sd ∧ binE (Rat.right xn xd && Rat.right zn zd) (xn * zd + zn * xd) (xd * zd) = 0)) (HT : Hid (binN (Rat.right yn yd && Rat.right zn zd) (yn * zd + zn * yd) (yd * zd) = tn ∧ binD (Rat.right yn yd && Rat.right zn zd) (yn * zd + zn * yd) (yd * zd) = td ∧ binE (Rat.right yn yd && Rat.right zn zd) (yn * zd + zn * yd) (yd * zd) = f)) (hf : (f != 0) = true) : Calls Tryd.prog 7 #[rt a0 b0, rt a1 b1, rt a2 b2] w fun e w' => e = .returned (.bool true) ∧ Below w.heap.size w w' := by
  have hgR := guardR
  have heq := eql_rt
  have hB0 : Below w.heap.size w w := Below.refl _ _
  go_enter Tryd.func7, Tryd.ntmps7
  go_wp2_with fail
  have hR' := hR.below ((((Below.refl _ _).alloc (Nat.le_refl _) (.cells #[.int .i64 a0, .int .i64 b0] 23)).alloc (by simp) (.cells #[.int .i64 a1, .int .i64 b1] 23)).alloc (by simp; omega) (.cells #[.int .i64 a2, .int .i64 b2] 23))
  refine (examples_any _ hR').mono ?_
  rintro e w1 ⟨rfl, hb1⟩
  have hs1 : Below w.heap.size w w1 := Below.trans (by repeat (first | exact Below.refl _ _ | refine Below.alloc ?_ (by simp <;> omega) _)) (hb1.mono (by simp <;> omega))
  have c_p0_0 : w1.cell? ⟨w.heap.size, 0, none⟩ = some (.int .i64 (a0)) := (hb1.cell (by simp <;> omega)).trans (by go_simp)
  have c_p0_1 : w1.cell? ⟨w.heap.size, 1, none⟩ = some (.int .i64 (b0)) := (hb1.cell (by simp <;> omega)).trans (by go_simp)
  have c_p1_0 : w1.cell? ⟨w.heap.size + 1, 0, none⟩ = some (.int .i64 (a1)) := (hb1.cell (by simp <;> omega)).trans (by go_simp)
  have c_p1_1 : w1.cell? ⟨w.heap.size + 1, 1, none⟩ = some (.int .i64 (b1)) := (hb1.cell (by simp <;> omega)).trans (by go_simp)
  have c_p2_0 : w1.cell? ⟨w.heap.size + 1 + 1, 0, none⟩ = some (.int .i64 (a2)) := (hb1.cell (by simp <;> omega)).trans (by go_simp)
  have c_p2_1 : w1.cell? ⟨w.heap.size + 1 + 1, 1, none⟩ = some (.int .i64 (b2)) := (hb1.cell (by simp <;> omega)).trans (by go_simp)
  have z_p0 := World.block_lt_of_cell? _ _ c_p0_0
  have z_p1 := World.block_lt_of_cell? _ _ c_p1_0
  have z_p2 := World.block_lt_of_cell? _ _ c_p2_0
  have hB1 := below_two hB0 hs1
  clear hB0 hs1 hb1
  clear hR' hR
  go_wp2_with fail
  refine (HX.out _).mono ?_
  rintro e w2 ⟨rfl, hb2⟩
  have hs2 := hb2
  clear c_p0_0
  clear c_p0_1
  replace c_p1_0 := cell_later hs2 c_p1_0
  replace c_p1_1 := cell_later hs2 c_p1_1
  replace c_p2_0 := cell_later hs2 c_p2_0
  replace c_p2_1 := cell_later hs2 c_p2_1
  clear z_p1
  have z_p1 := World.block_lt_of_cell? _ _ c_p1_0
  clear z_p2
  have z_p2 := World.block_lt_of_cell? _ _ c_p2_0
  clear z_p0
  have hB2 := below_two hB1 hs2
  clear hB1 hs2
  go_wp2_with fail
  refine (HY.out _).mono ?_
  rintro e w3 ⟨rfl, hb3⟩
  have hs3 : Below w2.heap.size w2 w3 := Below.trans (by repeat (first | exact Below.refl _ _ | refine Below.alloc ?_ (by simp <;> omega) _)) (hb3.mono (by simp <;> omega))
  clear c_p1_0
  clear c_p1_1
  replace c_p2_0 := cell_later hs3 c_p2_0
  replace c_p2_1 := cell_later hs3 c_p2_1
  have c_x_0 : w3.cell? ⟨w2.heap.size, 0, none⟩ = some (.int .i64 (xn)) := (hb3.cell (by simp <;> omega)).trans (by go_simp)
  have c_x_1 : w3.cell? ⟨w2.heap.size, 1, none⟩ = some (.int .i64 (xd)) := (hb3.cell (by simp <;> omega)).trans (by go_simp)
  clear z_p2
  have z_p2 := World.block_lt_of_cell? _ _ c_p2_0
  have z_x := World.block_lt_of_cell? _ _ c_x_0
  clear z_p1
  have hB3 := below_two hB2 hs3
  clear hB2 hs3 hb3
  go_wp2_with fail
  refine (HZ.out _).mono ?_
  rintro e w4 ⟨rfl, hb4⟩
  have hs4 : Below w3.heap.size w3 w4 := Below.trans (by repeat (first | exact Below.refl _ _ | refine Below.alloc ?_ (by simp <;> omega) _)) (hb4.mono (by simp <;> omega))
  clear c_p2_0
  clear c_p2_1
  replace c_x_0 := cell_later hs4 c_x_0
  replace c_x_1 := cell_later hs4 c_x_1
  have c_y_0 : w4.cell? ⟨w3.heap.size, 0, none⟩ = some (.int .i64 (yn)) := (hb4.cell (by simp <;> omega)).trans (by go_simp)
  have c_y_1 : w4.cell? ⟨w3.heap.size, 1, none⟩ = some (.int .i64 (yd)) := (hb4.cell (by simp <;> omega)).trans (by go_simp)
  clear z_x
  have z_x := World.block_lt_of_cell? _ _ c_x_0
  have z_y := World.block_lt_of_cell? _ _ c_y_0
  clear z_p2
  have hB4 := below_two hB3 hs4
  clear hB3 hs4 hb4
  go_wp2_with fail
  refine (compare_any _ _ _ _ _).mono ?_
  rintro e w5 ⟨rfl, hb5⟩
  have hs5 : Below w4.heap.size w4 w5 := Below.trans (by repeat (first | exact Below.refl _ _ | refine Below.alloc ?_ (by simp <;> omega) _)) (hb5.mono (by simp <;> omega))
  replace c_x_0 := cell_later hs5 c_x_0
  replace c_x_1 := cell_later hs5 c_x_1
  replace c_y_0 := cell_later hs5 c_y_0
  replace c_y_1 := cell_later hs5 c_y_1
  have c_z_0 : w5.cell? ⟨w4.heap.size, 0, none⟩ = some (.int .i64 (zn)) := (hb5.cell (by simp <;> omega)).trans (by go_simp)
  have c_z_1 : w5.cell? ⟨w4.heap.size, 1, none⟩ = some (.int .i64 (zd)) := (hb5.cell (by simp <;> omega)).trans (by go_simp)
  clear z_x
  have z_x := World.block_lt_of_cell? _ _ c_x_0
  clear z_y
  have z_y := World.block_lt_of_cell? _ _ c_y_0
  have z_z := World.block_lt_of_cell? _ _ c_z_0
  have hB5 := below_two hB4 hs5
  clear hB4 hs5 hb5
  rw [C1.out]
  go_wp2_with fail
  refine (compare_any _ _ _ _ _).mono ?_
  rintro e w6 ⟨rfl, hb6⟩
  have hs6 := hb6
  replace c_x_0 := cell_later hs6 c_x_0
  replace c_x_1 := cell_later hs6 c_x_1
  replace c_y_0 := cell_later hs6 c_y_0
  replace c_y_1 := cell_later hs6 c_y_1
  replace c_z_0 := cell_later hs6 c_z_0
  replace c_z_1 := cell_later hs6 c_z_1
  clear z_x
  have z_x := World.block_lt_of_cell? _ _ c_x_0
  clear z_y
  have z_y := World.block_lt_of_cell? _ _ c_y_0
  clear z_z
  have z_z := World.block_lt_of_cell? _ _ c_z_0
  have hB6 := below_two hB5 hs6
  clear hB5 hs6
  rw [C2.out]
  go_wp2_with fail
  refine (compare_any _ _ _ _ _).mono ?_
  rintro e w7 ⟨rfl, hb7⟩
  have hs7 := hb7
  replace c_x_0 := cell_later hs7 c_x_0
  replace c_x_1 := cell_later hs7 c_x_1
  replace c_y_0 := cell_later hs7 c_y_0
  replace c_y_1 := cell_later hs7 c_y_1
  replace c_z_0 := cell_later hs7 c_z_0
  replace c_z_1 := cell_later hs7 c_z_1
  clear z_x
  have z_x := World.block_lt_of_cell? _ _ c_x_0
  clear z_y
  have z_y := World.block_lt_of_cell? _ _ c_y_0
  clear z_z
  have z_z := World.block_lt_of_cell? _ _ c_z_0
  have hB7 := below_two hB6 hs7
  clear hB6 hs7
  rw [C3.out]
  go_wp2_with fail
  refine (compare_any _ _ _ _ _).mono ?_
  rintro e w8 ⟨rfl, hb8⟩
  have hs8 := hb8
  replace c_x_0 := cell_later hs8 c_x_0
  replace c_x_1 := cell_later hs8 c_x_1
  replace c_y_0 := cell_later hs8 c_y_0
  replace c_y_1 := cell_later hs8 c_y_1
  replace c_z_0 := cell_later hs8 c_z_0
  replace c_z_1 := cell_later hs8 c_z_1
  clear z_x
  have z_x := World.block_lt_of_cell? _ _ c_x_0
  clear z_y
  have z_y := World.block_lt_of_cell? _ _ c_y_0
  clear z_z
  have z_z := World.block_lt_of_cell? _ _ c_z_0
  have hB8 := below_two hB7 hs8
  clear hB7 hs8
  rw [C4.out]
  go_wp2_with fail
  refine (add_any _ _ _ _ _).mono ?_
  rintro e w9 ⟨rfl, hb9⟩
  have hs9 := hb9
  replace c_x_0 := cell_later hs9 c_x_0
  replace c_x_1 := cell_later hs9 c_x_1
  replace c_y_0 := cell_later hs9 c_y_0
  replace c_y_1 := cell_later hs9 c_y_1
  replace c_z_0 := cell_later hs9 c_z_0
  replace c_z_1 := cell_later hs9 c_z_1
  clear z_x
  have z_x := World.block_lt_of_cell? _ _ c_x_0
  clear z_y
  have z_y := World.block_lt_of_cell? _ _ c_y_0
  clear z_z
  have z_z := World.block_lt_of_cell? _ _ c_z_0
  have hB9 := below_two hB8 hs9
  clear hB8 hs9
  rw [HS.out.1, HS.out.2.1, HS.out.2.2]
  go_wp2_with fail
  refine (add_any _ _ _ _ _).mono ?_
  rintro e w10 ⟨rfl, hb10⟩
  have hs10 : Below w9.heap.size w9 w10 := Below.trans (by repeat (first | exact Below.refl _ _ | refine Below.alloc ?_ (by simp <;> omega) _)) (hb10.mono (by simp <;> omega))
  replace c_x_0 := cell_later hs10 c_x_0
  replace c_x_1 := cell_later hs10 c_x_1
  replace c_y_0 := cell_later hs10 c_y_0
  replace c_y_1 := cell_later hs10 c_y_1
  replace c_z_0 := cell_later hs10 c_z_0
  replace c_z_1 := cell_later hs10 c_z_1
  have c_s_0 : w10.cell? ⟨w9.heap.size, 0, none⟩ = some (.int .i64 (sn)) := (hb10.cell (by simp <;> omega)).trans (by go_simp)
  have c_s_1 : w10.cell? ⟨w9.heap.size, 1, none⟩ = some (.int .i64 (sd)) := (hb10.cell (by simp <;> omega)).trans (by go_simp)
  have z_s := World.block_lt_of_cell? _ _ c_s_0
  clear z_x
  have z_x := World.block_lt_of_cell? _ _ c_x_0
  clear z_y
  have z_y := World.block_lt_of_cell? _ _ c_y_0
  clear z_z
  have z_z := World.block_lt_of_cell? _ _ c_z_0
  have hB10 := below_two hB9 hs10
  clear hB9 hs10 hb10
  rw [HT.out.1, HT.out.2.1, HT.out.2.2]
  go_wp2_with fail
  refine (cmp_zero _ _ _).mono ?_
  rintro e w11 ⟨rfl, hb11⟩
  have hs11 : Below w10.heap.size w10 w11 := Below.trans (by repeat (first | exact Below.refl _ _ | refine Below.alloc ?_ (by simp <;> omega) _)) (hb11.mono (by simp <;> omega))
  clear c_y_0
  clear c_y_1
  clear c_z_0
  clear c_z_1
  clear c_s_0
  clear c_s_1
  replace c_x_0 := cell_later hs11 c_x_0
  replace c_x_1 := cell_later hs11 c_x_1
  clear z_x
  have z_x := World.block_lt_of_cell? _ _ c_x_0
  clear z_s
  clear z_y
  clear z_z
  have hB11 := below_two hB10 hs11
  clear hB10 hs11 hb11
  go_wp2_with fail
  refine (cmp_two _ _ _).mono ?_
  rintro e w12 ⟨rfl, hb12⟩
  have hs12 := hb12
  replace c_x_0 := cell_later hs12 c_x_0
  replace c_x_1 := cell_later hs12 c_x_1
  clear z_x
  have z_x := World.block_lt_of_cell? _ _ c_x_0
  have hB12 := below_two hB11 hs12
  clear hB11 hs12
  go_wp2
  go_ret
  exact ⟨rfl, hB12⟩

set_option maxRecDepth 100000 in
set_option maxHeartbeats 4000000 in
theorem order_zgt_f (a0 b0 a1 b1 a2 b2 xn xd yn yd zn zd c3 sn sd tn td f : Int) (w : World) (hR : Ready w) (HX : Hid (∀ w, Calls Tryd.prog 17 #[rt a0 b0] w fun e w' => e = .returned (rt xn xd) ∧ Below w.heap.size w w')) (HY : Hid (∀ w, Calls Tryd.prog 17 #[rt a1 b1] w fun e w' => e = .returned (rt yn yd) ∧ Below w.heap.size w w')) (HZ : Hid (∀ w, Calls Tryd.prog 17 #[rt a2 b2] w fun e w' => e = .returned (rt zn zd) ∧ Below w.heap.size w w')) (C1 : Hid (cmpV (Rat.right xn xd && Rat.right yn yd) (xn * yd - yn * xd) = 0)) (C2 : Hid (cmpV (Rat.right yn yd && Rat.right xn xd) (yn * xd - xn * yd) = 0)) (hq : eqR xn xd yn yd = true) (C3 : Hid (cmpV (Rat.right yn yd && Rat.right zn zd) (yn * zd - zn * yd) = c3)) (h3 : 0 < c3) (HS : Hid (binN (Rat.right xn xd && Rat.right zn zd) (xn * zd + zn * xd) (xd * zd) = sn ∧ binD (Rat.right xn xd && Rat.right zn zd) (xn * zd + zn * xd) (xd * zd) = sd ∧ binE (Rat.right xn xd && Rat.right zn zd) (xn * zd + zn * xd) (xd * zd) = 0)) (HT : Hid (binN (Rat.right yn yd && Rat.right zn zd) (yn * zd + zn * yd) (yd * zd) = tn ∧ binD (Rat.right yn yd && Rat.right zn zd) (yn * zd + zn * yd) (yd * zd) = td ∧ binE (Rat.right yn yd && Rat.right zn zd) (yn * zd + zn * yd) (yd * zd) = f)) (hf : (f != 0) = true) : Calls Tryd.prog 7 #[rt a0 b0, rt a1 b1, rt a2 b2] w fun e w' => e = .returned (.bool true) ∧ Below w.heap.size w w' := by
  have hgR := guardR
  have heq := eql_rt
  have hB0 : Below w.heap.size w w := Below.refl _ _
  go_enter Tryd.func7, Tryd.ntmps7
  go_wp2_with fail
  have hR' := hR.below ((((Below.refl _ _).alloc (Nat.le_refl _) (.cells #[.int .i64 a0, .int .i64 b0] 23)).alloc (by simp) (.cells #[.int .i64 a1, .int .i64 b1] 23)).alloc (by simp; omega) (.cells #[.int .i64 a2, .int .i64 b2] 23))
  refine (examples_any _ hR').mono ?_
  rintro e w1 ⟨rfl, hb1⟩
  have hs1 : Below w.heap.size w w1 := Below.trans (by repeat (first | exact Below.refl _ _ | refine Below.alloc ?_ (by simp <;> omega) _)) (hb1.mono (by simp <;> omega))
  have c_p0_0 : w1.cell? ⟨w.heap.size, 0, none⟩ = some (.int .i64 (a0)) := (hb1.cell (by simp <;> omega)).trans (by go_simp)
  have c_p0_1 : w1.cell? ⟨w.heap.size, 1, none⟩ = some (.int .i64 (b0)) := (hb1.cell (by simp <;> omega)).trans (by go_simp)
  have c_p1_0 : w1.cell? ⟨w.heap.size + 1, 0, none⟩ = some (.int .i64 (a1)) := (hb1.cell (by simp <;> omega)).trans (by go_simp)
  have c_p1_1 : w1.cell? ⟨w.heap.size + 1, 1, none⟩ = some (.int .i64 (b1)) := (hb1.cell (by simp <;> omega)).trans (by go_simp)
  have c_p2_0 : w1.cell? ⟨w.heap.size + 1 + 1, 0, none⟩ = some (.int .i64 (a2)) := (hb1.cell (by simp <;> omega)).trans (by go_simp)
  have c_p2_1 : w1.cell? ⟨w.heap.size + 1 + 1, 1, none⟩ = some (.int .i64 (b2)) := (hb1.cell (by simp <;> omega)).trans (by go_simp)
  have z_p0 := World.block_lt_of_cell? _ _ c_p0_0
  have z_p1 := World.block_lt_of_cell? _ _ c_p1_0
  have z_p2 := World.block_lt_of_cell? _ _ c_p2_0
  have hB1 := below_two hB0 hs1
  clear hB0 hs1 hb1
  clear hR' hR
  go_wp2_with fail
  refine (HX.out _).mono ?_
  rintro e w2 ⟨rfl, hb2⟩
  have hs2 := hb2
  clear c_p0_0
  clear c_p0_1
  replace c_p1_0 := cell_later hs2 c_p1_0
  replace c_p1_1 := cell_later hs2 c_p1_1
  replace c_p2_0 := cell_later hs2 c_p2_0
  replace c_p2_1 := cell_later hs2 c_p2_1
  clear z_p1
  have z_p1 := World.block_lt_of_cell? _ _ c_p1_0
  clear z_p2
  have z_p2 := World.block_lt_of_cell? _ _ c_p2_0
  clear z_p0
  have hB2 := below_two hB1 hs2
  clear hB1 hs2
  go_wp2_with fail
  refine (HY.out _).mono ?_
  rintro e w3 ⟨rfl, hb3⟩
  have hs3 : Below w2.heap.size w2 w3 := Below.trans (by repeat (first | exact Below.refl _ _ | refine Below.alloc ?_ (by simp <;> omega) _)) (hb3.mono (by simp <;> omega))
  clear c_p1_0
  clear c_p1_1
  replace c_p2_0 := cell_later hs3 c_p2_0
  replace c_p2_1 := cell_later hs3 c_p2_1
  have c_x_0 : w3.cell? ⟨w2.heap.size, 0, none⟩ = some (.int .i64 (xn)) := (hb3.cell (by simp <;> omega)).trans (by go_simp)
  have c_x_1 : w3.cell? ⟨w2.heap.size, 1, none⟩ = some (.int .i64 (xd)) := (hb3.cell (by simp <;> omega)).trans (by go_simp)
  clear z_p2
  have z_p2 := World.block_lt_of_cell? _ _ c_p2_0
  have z_x := World.block_lt_of_cell? _ _ c_x_0
  clear z_p1
  have hB3 := below_two hB2 hs3
  clear hB2 hs3 hb3
  go_wp2_with fail
  refine (HZ.out _).mono ?_
  rintro e w4 ⟨rfl, hb4⟩
  have hs4 : Below w3.heap.size w3 w4 := Below.trans (by repeat (first | exact Below.refl _ _ | refine Below.alloc ?_ (by simp <;> omega) _)) (hb4.mono (by simp <;> omega))
  clear c_p2_0
  clear c_p2_1
  replace c_x_0 := cell_later hs4 c_x_0
  replace c_x_1 := cell_later hs4 c_x_1
  have c_y_0 : w4.cell? ⟨w3.heap.size, 0, none⟩ = some (.int .i64 (yn)) := (hb4.cell (by simp <;> omega)).trans (by go_simp)
  have c_y_1 : w4.cell? ⟨w3.heap.size, 1, none⟩ = some (.int .i64 (yd)) := (hb4.cell (by simp <;> omega)).trans (by go_simp)
  clear z_x
  have z_x := World.block_lt_of_cell? _ _ c_x_0
  have z_y := World.block_lt_of_cell? _ _ c_y_0
  clear z_p2
  have hB4 := below_two hB3 hs4
  clear hB3 hs4 hb4
  go_wp2_with fail
  refine (compare_any _ _ _ _ _).mono ?_
  rintro e w5 ⟨rfl, hb5⟩
  have hs5 : Below w4.heap.size w4 w5 := Below.trans (by repeat (first | exact Below.refl _ _ | refine Below.alloc ?_ (by simp <;> omega) _)) (hb5.mono (by simp <;> omega))
  replace c_x_0 := cell_later hs5 c_x_0
  replace c_x_1 := cell_later hs5 c_x_1
  replace c_y_0 := cell_later hs5 c_y_0
  replace c_y_1 := cell_later hs5 c_y_1
  have c_z_0 : w5.cell? ⟨w4.heap.size, 0, none⟩ = some (.int .i64 (zn)) := (hb5.cell (by simp <;> omega)).trans (by go_simp)
  have c_z_1 : w5.cell? ⟨w4.heap.size, 1, none⟩ = some (.int .i64 (zd)) := (hb5.cell (by simp <;> omega)).trans (by go_simp)
  clear z_x
  have z_x := World.block_lt_of_cell? _ _ c_x_0
  clear z_y
  have z_y := World.block_lt_of_cell? _ _ c_y_0
  have z_z := World.block_lt_of_cell? _ _ c_z_0
  have hB5 := below_two hB4 hs5
  clear hB4 hs5 hb5
  rw [C1.out]
  go_wp2_with fail
  refine (compare_any _ _ _ _ _).mono ?_
  rintro e w6 ⟨rfl, hb6⟩
  have hs6 := hb6
  replace c_x_0 := cell_later hs6 c_x_0
  replace c_x_1 := cell_later hs6 c_x_1
  replace c_y_0 := cell_later hs6 c_y_0
  replace c_y_1 := cell_later hs6 c_y_1
  replace c_z_0 := cell_later hs6 c_z_0
  replace c_z_1 := cell_later hs6 c_z_1
  clear z_x
  have z_x := World.block_lt_of_cell? _ _ c_x_0
  clear z_y
  have z_y := World.block_lt_of_cell? _ _ c_y_0
  clear z_z
  have z_z := World.block_lt_of_cell? _ _ c_z_0
  have hB6 := below_two hB5 hs6
  clear hB5 hs6
  rw [C2.out]
  go_wp2_with fail
  refine (compare_any _ _ _ _ _).mono ?_
  rintro e w7 ⟨rfl, hb7⟩
  have hs7 := hb7
  replace c_x_0 := cell_later hs7 c_x_0
  replace c_x_1 := cell_later hs7 c_x_1
  replace c_y_0 := cell_later hs7 c_y_0
  replace c_y_1 := cell_later hs7 c_y_1
  replace c_z_0 := cell_later hs7 c_z_0
  replace c_z_1 := cell_later hs7 c_z_1
  clear z_x
  have z_x := World.block_lt_of_cell? _ _ c_x_0
  clear z_y
  have z_y := World.block_lt_of_cell? _ _ c_y_0
  clear z_z
  have z_z := World.block_lt_of_cell? _ _ c_z_0
  have hB7 := below_two hB6 hs7
  clear hB6 hs7
  rw [C3.out]
  go_wp2_with fail
  refine (add_any _ _ _ _ _).mono ?_
  rintro e w8 ⟨rfl, hb8⟩
  have hs8 := hb8
  replace c_x_0 := cell_later hs8 c_x_0
  replace c_x_1 := cell_later hs8 c_x_1
  replace c_y_0 := cell_later hs8 c_y_0
  replace c_y_1 := cell_later hs8 c_y_1
  replace c_z_0 := cell_later hs8 c_z_0
  replace c_z_1 := cell_later hs8 c_z_1
  clear z_x
  have z_x := World.block_lt_of_cell? _ _ c_x_0
  clear z_y
  have z_y := World.block_lt_of_cell? _ _ c_y_0
  clear z_z
  have z_z := World.block_lt_of_cell? _ _ c_z_0
  have hB8 := below_two hB7 hs8
  clear hB7 hs8
  rw [HS.out.1, HS.out.2.1, HS.out.2.2]
  go_wp2_with fail
  refine (add_any _ _ _ _ _).mono ?_
  rintro e w9 ⟨rfl, hb9⟩
  have hs9 : Below w8.heap.size w8 w9 := Below.trans (by repeat (first | exact Below.refl _ _ | refine Below.alloc ?_ (by simp <;> omega) _)) (hb9.mono (by simp <;> omega))
  replace c_x_0 := cell_later hs9 c_x_0
  replace c_x_1 := cell_later hs9 c_x_1
  replace c_y_0 := cell_later hs9 c_y_0
  replace c_y_1 := cell_later hs9 c_y_1
  replace c_z_0 := cell_later hs9 c_z_0
  replace c_z_1 := cell_later hs9 c_z_1
  have c_s_0 : w9.cell? ⟨w8.heap.size, 0, none⟩ = some (.int .i64 (sn)) := (hb9.cell (by simp <;> omega)).trans (by go_simp)
  have c_s_1 : w9.cell? ⟨w8.heap.size, 1, none⟩ = some (.int .i64 (sd)) := (hb9.cell (by simp <;> omega)).trans (by go_simp)
  have z_s := World.block_lt_of_cell? _ _ c_s_0
  clear z_x
  have z_x := World.block_lt_of_cell? _ _ c_x_0
  clear z_y
  have z_y := World.block_lt_of_cell? _ _ c_y_0
  clear z_z
  have z_z := World.block_lt_of_cell? _ _ c_z_0
  have hB9 := below_two hB8 hs9
  clear hB8 hs9 hb9
  rw [HT.out.1, HT.out.2.1, HT.out.2.2]
  go_wp2_with fail
  refine (cmp_zero _ _ _).mono ?_
  rintro e w10 ⟨rfl, hb10⟩
  have hs10 : Below w9.heap.size w9 w10 := Below.trans (by repeat (first | exact Below.refl _ _ | refine Below.alloc ?_ (by simp <;> omega) _)) (hb10.mono (by simp <;> omega))
  clear c_y_0
  clear c_y_1
  clear c_z_0
  clear c_z_1
  clear c_s_0
  clear c_s_1
  replace c_x_0 := cell_later hs10 c_x_0
  replace c_x_1 := cell_later hs10 c_x_1
  clear z_x
  have z_x := World.block_lt_of_cell? _ _ c_x_0
  clear z_s
  clear z_y
  clear z_z
  have hB10 := below_two hB9 hs10
  clear hB9 hs10 hb10
  go_wp2_with fail
  refine (cmp_two _ _ _).mono ?_
  rintro e w11 ⟨rfl, hb11⟩
  have hs11 := hb11
  replace c_x_0 := cell_later hs11 c_x_0
  replace c_x_1 := cell_later hs11 c_x_1
  clear z_x
  have z_x := World.block_lt_of_cell? _ _ c_x_0
  have hB11 := below_two hB10 hs11
  clear hB10 hs11
  go_wp2
  go_ret
  exact ⟨rfl, hB11⟩

set_option maxRecDepth 100000 in
set_option maxHeartbeats 4000000 in
theorem order_p_f (a0 b0 a1 b1 a2 b2 xn xd yn yd zn zd sn sd tn td f : Int) (w : World) (hR : Ready w) (HX : Hid (∀ w, Calls Tryd.prog 17 #[rt a0 b0] w fun e w' => e = .returned (rt xn xd) ∧ Below w.heap.size w w')) (HY : Hid (∀ w, Calls Tryd.prog 17 #[rt a1 b1] w fun e w' => e = .returned (rt yn yd) ∧ Below w.heap.size w w')) (HZ : Hid (∀ w, Calls Tryd.prog 17 #[rt a2 b2] w fun e w' => e = .returned (rt zn zd) ∧ Below w.heap.size w w')) (C1 : Hid (cmpV (Rat.right xn xd && Rat.right yn yd) (xn * yd - yn * xd) = 1)) (C2 : Hid (cmpV (Rat.right yn yd && Rat.right xn xd) (yn * xd - xn * yd) = -1)) (hq : eqR xn xd yn yd = false) (HS : Hid (binN (Rat.right xn xd && Rat.right zn zd) (xn * zd + zn * xd) (xd * zd) = sn ∧ binD (Rat.right xn xd && Rat.right zn zd) (xn * zd + zn * xd) (xd * zd) = sd ∧ binE (Rat.right xn xd && Rat.right zn zd) (xn * zd + zn * xd) (xd * zd) = 0)) (HT : Hid (binN (Rat.right yn yd && Rat.right zn zd) (yn * zd + zn * yd) (yd * zd) = tn ∧ binD (Rat.right yn yd && Rat.right zn zd) (yn * zd + zn * yd) (yd * zd) = td ∧ binE (Rat.right yn yd && Rat.right zn zd) (yn * zd + zn * yd) (yd * zd) = f)) (hf : (f != 0) = true) : Calls Tryd.prog 7 #[rt a0 b0, rt a1 b1, rt a2 b2] w fun e w' => e = .returned (.bool true) ∧ Below w.heap.size w w' := by
  have hgR := guardR
  have heq := eql_rt
  have hB0 : Below w.heap.size w w := Below.refl _ _
  go_enter Tryd.func7, Tryd.ntmps7
  go_wp2_with fail
  have hR' := hR.below ((((Below.refl _ _).alloc (Nat.le_refl _) (.cells #[.int .i64 a0, .int .i64 b0] 23)).alloc (by simp) (.cells #[.int .i64 a1, .int .i64 b1] 23)).alloc (by simp; omega) (.cells #[.int .i64 a2, .int .i64 b2] 23))
  refine (examples_any _ hR').mono ?_
  rintro e w1 ⟨rfl, hb1⟩
  have hs1 : Below w.heap.size w w1 := Below.trans (by repeat (first | exact Below.refl _ _ | refine Below.alloc ?_ (by simp <;> omega) _)) (hb1.mono (by simp <;> omega))
  have c_p0_0 : w1.cell? ⟨w.heap.size, 0, none⟩ = some (.int .i64 (a0)) := (hb1.cell (by simp <;> omega)).trans (by go_simp)
  have c_p0_1 : w1.cell? ⟨w.heap.size, 1, none⟩ = some (.int .i64 (b0)) := (hb1.cell (by simp <;> omega)).trans (by go_simp)
  have c_p1_0 : w1.cell? ⟨w.heap.size + 1, 0, none⟩ = some (.int .i64 (a1)) := (hb1.cell (by simp <;> omega)).trans (by go_simp)
  have c_p1_1 : w1.cell? ⟨w.heap.size + 1, 1, none⟩ = some (.int .i64 (b1)) := (hb1.cell (by simp <;> omega)).trans (by go_simp)
  have c_p2_0 : w1.cell? ⟨w.heap.size + 1 + 1, 0, none⟩ = some (.int .i64 (a2)) := (hb1.cell (by simp <;> omega)).trans (by go_simp)
  have c_p2_1 : w1.cell? ⟨w.heap.size + 1 + 1, 1, none⟩ = some (.int .i64 (b2)) := (hb1.cell (by simp <;> omega)).trans (by go_simp)
  have z_p0 := World.block_lt_of_cell? _ _ c_p0_0
  have z_p1 := World.block_lt_of_cell? _ _ c_p1_0
  have z_p2 := World.block_lt_of_cell? _ _ c_p2_0
  have hB1 := below_two hB0 hs1
  clear hB0 hs1 hb1
  clear hR' hR
  go_wp2_with fail
  refine (HX.out _).mono ?_
  rintro e w2 ⟨rfl, hb2⟩
  have hs2 := hb2
  clear c_p0_0
  clear c_p0_1
  replace c_p1_0 := cell_later hs2 c_p1_0
  replace c_p1_1 := cell_later hs2 c_p1_1
  replace c_p2_0 := cell_later hs2 c_p2_0
  replace c_p2_1 := cell_later hs2 c_p2_1
  clear z_p1
  have z_p1 := World.block_lt_of_cell? _ _ c_p1_0
  clear z_p2
  have z_p2 := World.block_lt_of_cell? _ _ c_p2_0
  clear z_p0
  have hB2 := below_two hB1 hs2
  clear hB1 hs2
  go_wp2_with fail
  refine (HY.out _).mono ?_
  rintro e w3 ⟨rfl, hb3⟩
  have hs3 : Below w2.heap.size w2 w3 := Below.trans (by repeat (first | exact Below.refl _ _ | refine Below.alloc ?_ (by simp <;> omega) _)) (hb3.mono (by simp <;> omega))
  clear c_p1_0
  clear c_p1_1
  replace c_p2_0 := cell_later hs3 c_p2_0
  replace c_p2_1 := cell_later hs3 c_p2_1
  have c_x_0 : w3.cell? ⟨w2.heap.size, 0, none⟩ = some (.int .i64 (xn)) := (hb3.cell (by simp <;> omega)).trans (by go_simp)
  have c_x_1 : w3.cell? ⟨w2.heap.size, 1, none⟩ = some (.int .i64 (xd)) := (hb3.cell (by simp <;> omega)).trans (by go_simp)
  clear z_p2
  have z_p2 := World.block_lt_of_cell? _ _ c_p2_0
  have z_x := World.block_lt_of_cell? _ _ c_x_0
  clear z_p1
  have hB3 := below_two hB2 hs3
  clear hB2 hs3 hb3
  go_wp2_with fail
  refine (HZ.out _).mono ?_
  rintro e w4 ⟨rfl, hb4⟩
  have hs4 : Below w3.heap.size w3 w4 := Below.trans (by repeat (first | exact Below.refl _ _ | refine Below.alloc ?_ (by simp <;> omega) _)) (hb4.mono (by simp <;> omega))
  clear c_p2_0
  clear c_p2_1
  replace c_x_0 := cell_later hs4 c_x_0
  replace c_x_1 := cell_later hs4 c_x_1
  have c_y_0 : w4.cell? ⟨w3.heap.size, 0, none⟩ = some (.int .i64 (yn)) := (hb4.cell (by simp <;> omega)).trans (by go_simp)
  have c_y_1 : w4.cell? ⟨w3.heap.size, 1, none⟩ = some (.int .i64 (yd)) := (hb4.cell (by simp <;> omega)).trans (by go_simp)
  clear z_x
  have z_x := World.block_lt_of_cell? _ _ c_x_0
  have z_y := World.block_lt_of_cell? _ _ c_y_0
  clear z_p2
  have hB4 := below_two hB3 hs4
  clear hB3 hs4 hb4
  go_wp2_with fail
  refine (compare_any _ _ _ _ _).mono ?_
  rintro e w5 ⟨rfl, hb5⟩
  have hs5 : Below w4.heap.size w4 w5 := Below.trans (by repeat (first | exact Below.refl _ _ | refine Below.alloc ?_ (by simp <;> omega) _)) (hb5.mono (by simp <;> omega))
  replace c_x_0 := cell_later hs5 c_x_0
  replace c_x_1 := cell_later hs5 c_x_1
  replace c_y_0 := cell_later hs5 c_y_0
  replace c_y_1 := cell_later hs5 c_y_1
  have c_z_0 : w5.cell? ⟨w4.heap.size, 0, none⟩ = some (.int .i64 (zn)) := (hb5.cell (by simp <;> omega)).trans (by go_simp)
  have c_z_1 : w5.cell? ⟨w4.heap.size, 1, none⟩ = some (.int .i64 (zd)) := (hb5.cell (by simp <;> omega)).trans (by go_simp)
  clear z_x
  have z_x := World.block_lt_of_cell? _ _ c_x_0
  clear z_y
  have z_y := World.block_lt_of_cell? _ _ c_y_0
  have z_z := World.block_lt_of_cell? _ _ c_z_0
  have hB5 := below_two hB4 hs5
  clear hB4 hs5 hb5
  rw [C1.out]
  go_wp2_with fail
  refine (compare_any _ _ _ _ _).mono ?_
  rintro e w6 ⟨rfl, hb6⟩
  have hs6 := hb6
  replace c_x_0 := cell_later hs6 c_x_0
  replace c_x_1 := cell_later hs6 c_x_1
  replace c_y_0 := cell_later hs6 c_y_0
  replace c_y_1 := cell_later hs6 c_y_1
  replace c_z_0 := cell_later hs6 c_z_0
  replace c_z_1 := cell_later hs6 c_z_1
  clear z_x
  have z_x := World.block_lt_of_cell? _ _ c_x_0
  clear z_y
  have z_y := World.block_lt_of_cell? _ _ c_y_0
  clear z_z
  have z_z := World.block_lt_of_cell? _ _ c_z_0
  have hB6 := below_two hB5 hs6
  clear hB5 hs6
  rw [C2.out]
  go_wp2_with fail
  refine (add_any _ _ _ _ _).mono ?_
  rintro e w7 ⟨rfl, hb7⟩
  have hs7 := hb7
  replace c_x_0 := cell_later hs7 c_x_0
  replace c_x_1 := cell_later hs7 c_x_1
  replace c_y_0 := cell_later hs7 c_y_0
  replace c_y_1 := cell_later hs7 c_y_1
  replace c_z_0 := cell_later hs7 c_z_0
  replace c_z_1 := cell_later hs7 c_z_1
  clear z_x
  have z_x := World.block_lt_of_cell? _ _ c_x_0
  clear z_y
  have z_y := World.block_lt_of_cell? _ _ c_y_0
  clear z_z
  have z_z := World.block_lt_of_cell? _ _ c_z_0
  have hB7 := below_two hB6 hs7
  clear hB6 hs7
  rw [HS.out.1, HS.out.2.1, HS.out.2.2]
  go_wp2_with fail
  refine (add_any _ _ _ _ _).mono ?_
  rintro e w8 ⟨rfl, hb8⟩
  have hs8 : Below w7.heap.size w7 w8 := Below.trans (by repeat (first | exact Below.refl _ _ | refine Below.alloc ?_ (by simp <;> omega) _)) (hb8.mono (by simp <;> omega))
  replace c_x_0 := cell_later hs8 c_x_0
  replace c_x_1 := cell_later hs8 c_x_1
  replace c_y_0 := cell_later hs8 c_y_0
  replace c_y_1 := cell_later hs8 c_y_1
  replace c_z_0 := cell_later hs8 c_z_0
  replace c_z_1 := cell_later hs8 c_z_1
  have c_s_0 : w8.cell? ⟨w7.heap.size, 0, none⟩ = some (.int .i64 (sn)) := (hb8.cell (by simp <;> omega)).trans (by go_simp)
  have c_s_1 : w8.cell? ⟨w7.heap.size, 1, none⟩ = some (.int .i64 (sd)) := (hb8.cell (by simp <;> omega)).trans (by go_simp)
  have z_s := World.block_lt_of_cell? _ _ c_s_0
  clear z_x
  have z_x := World.block_lt_of_cell? _ _ c_x_0
  clear z_y
  have z_y := World.block_lt_of_cell? _ _ c_y_0
  clear z_z
  have z_z := World.block_lt_of_cell? _ _ c_z_0
  have hB8 := below_two hB7 hs8
  clear hB7 hs8 hb8
  rw [HT.out.1, HT.out.2.1, HT.out.2.2]
  go_wp2_with fail
  refine (cmp_zero _ _ _).mono ?_
  rintro e w9 ⟨rfl, hb9⟩
  have hs9 : Below w8.heap.size w8 w9 := Below.trans (by repeat (first | exact Below.refl _ _ | refine Below.alloc ?_ (by simp <;> omega) _)) (hb9.mono (by simp <;> omega))
  clear c_y_0
  clear c_y_1
  clear c_z_0
  clear c_z_1
  clear c_s_0
  clear c_s_1
  replace c_x_0 := cell_later hs9 c_x_0
  replace c_x_1 := cell_later hs9 c_x_1
  clear z_x
  have z_x := World.block_lt_of_cell? _ _ c_x_0
  clear z_s
  clear z_y
  clear z_z
  have hB9 := below_two hB8 hs9
  clear hB8 hs9 hb9
  go_wp2_with fail
  refine (cmp_two _ _ _).mono ?_
  rintro e w10 ⟨rfl, hb10⟩
  have hs10 := hb10
  replace c_x_0 := cell_later hs10 c_x_0
  replace c_x_1 := cell_later hs10 c_x_1
  clear z_x
  have z_x := World.block_lt_of_cell? _ _ c_x_0
  have hB10 := below_two hB9 hs10
  clear hB9 hs10
  go_wp2
  go_ret
  exact ⟨rfl, hB10⟩
end Go.Proofs.YtgndmaihhkhnpaaDoor
