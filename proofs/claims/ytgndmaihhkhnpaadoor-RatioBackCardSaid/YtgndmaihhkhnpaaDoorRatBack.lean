/-
  RatioBack holds: the law's walk.
-/
import Derived.Test.YtgndmaihhkhnpaaDoorRatFacts
namespace Go.Proofs.YtgndmaihhkhnpaaDoor
open Go.RowKit

set_option maxRecDepth 100000 in
set_option maxHeartbeats 4000000 in
theorem back_w1 (a b c d xn xd yn yd sn sd e dn dd f mn md g qn qd h : Int) (w : World) (hR : Ready w) (HX : Hid (∀ w, Calls Tryd.prog 17 #[rt a b] w fun e w' => e = .returned (rt xn xd) ∧ Below w.heap.size w w')) (HY : Hid (∀ w, Calls Tryd.prog 17 #[rt c d] w fun e w' => e = .returned (rt yn yd) ∧ Below w.heap.size w w')) (HS : Hid (binN (Rat.right xn xd && Rat.right yn yd) (xn * yd + yn * xd) (xd * yd) = sn ∧ binD (Rat.right xn xd && Rat.right yn yd) (xn * yd + yn * xd) (xd * yd) = sd ∧ binE (Rat.right xn xd && Rat.right yn yd) (xn * yd + yn * xd) (xd * yd) = e)) (HD : Hid (binN (Rat.right sn sd && Rat.right yn yd) (sn * yd - yn * sd) (sd * yd) = dn ∧ binD (Rat.right sn sd && Rat.right yn yd) (sn * yd - yn * sd) (sd * yd) = dd ∧ binE (Rat.right sn sd && Rat.right yn yd) (sn * yd - yn * sd) (sd * yd) = f)) (HM : Hid (binN (Rat.right xn xd && Rat.right yn yd) (xn * yn) (xd * yd) = mn ∧ binD (Rat.right xn xd && Rat.right yn yd) (xn * yn) (xd * yd) = md ∧ binE (Rat.right xn xd && Rat.right yn yd) (xn * yn) (xd * yd) = g)) (HQ : Hid (binN (Rat.right mn md && Rat.right yn yd) (mn * yd) (md * yn) = qn ∧ binD (Rat.right mn md && Rat.right yn yd) (mn * yd) (md * yn) = qd ∧ binE (Rat.right mn md && Rat.right yn yd) (mn * yd) (md * yn) = h)) (HO : Hid (binN (Rat.right xn xd && Rat.right xn xd) (xn * xd - xn * xd) (xd * xd) = 0 ∧ binD (Rat.right xn xd && Rat.right xn xd) (xn * xd - xn * xd) (xd * xd) = 1 ∧ binE (Rat.right xn xd && Rat.right xn xd) (xn * xd - xn * xd) (xd * xd) = 0)) (HU : Hid (binN (Rat.right yn yd && Rat.right yn yd) (yn * yd) (yd * yn) = 0 ∧ binD (Rat.right yn yd && Rat.right yn yd) (yn * yd) (yd * yn) = 0 ∧ binE (Rat.right yn yd && Rat.right yn yd) (yn * yd) (yd * yn) = 11)) (HI1 : Hid (e = 0 → f = 0 ∧ eqR dn dd xn xd = true)) (hy0 : (yn == 0) = true) : Calls Tryd.prog 6 #[rt a b, rt c d] w fun e w' => e = .returned (.bool true) ∧ Below w.heap.size w w' := by
  have hgR := guardR
  have heq := eql_rt
  have hne := neq_rt
  have hself := eqR_self
  have hB0 : Below w.heap.size w w := Below.refl _ _
  go_enter Tryd.func6, Tryd.ntmps6
  go_wp2_with fail
  have hR' := hR.below (((Below.refl _ _).alloc (Nat.le_refl _) (.cells #[.int .i64 a, .int .i64 b] 23)).alloc (by simp) (.cells #[.int .i64 c, .int .i64 d] 23))
  refine (examples_any _ hR').mono ?_
  rintro e w1 ⟨rfl, hb1⟩
  have hs1 : Below w.heap.size w w1 := Below.trans (by repeat (first | exact Below.refl _ _ | refine Below.alloc ?_ (by simp <;> omega) _)) (hb1.mono (by simp <;> omega))
  have c_p_0 : w1.cell? ⟨w.heap.size, 0, none⟩ = some (.int .i64 a) := (hb1.cell (by simp <;> omega)).trans (by go_simp)
  have c_p_1 : w1.cell? ⟨w.heap.size, 1, none⟩ = some (.int .i64 b) := (hb1.cell (by simp <;> omega)).trans (by go_simp)
  have c_p2_0 : w1.cell? ⟨w.heap.size + 1, 0, none⟩ = some (.int .i64 c) := (hb1.cell (by simp <;> omega)).trans (by go_simp)
  have c_p2_1 : w1.cell? ⟨w.heap.size + 1, 1, none⟩ = some (.int .i64 d) := (hb1.cell (by simp <;> omega)).trans (by go_simp)
  have z_p := World.block_lt_of_cell? _ _ c_p_0
  have z_p2 := World.block_lt_of_cell? _ _ c_p2_0
  have hB1 := below_two hB0 hs1
  replace hR := hR.below hs1
  clear hB0 hs1 hb1
  clear hR'
  go_wp2_with fail
  refine (HX.out _).mono ?_
  rintro e w2 ⟨rfl, hb2⟩
  have hs2 := hb2
  clear c_p_0
  clear c_p_1
  replace c_p2_0 := cell_later hs2 c_p2_0
  replace c_p2_1 := cell_later hs2 c_p2_1
  clear z_p2
  have z_p2 := World.block_lt_of_cell? _ _ c_p2_0
  clear z_p
  have hB2 := below_two hB1 hs2
  clear hB1 hs2
  go_wp2_with fail
  refine (HY.out _).mono ?_
  rintro e w3 ⟨rfl, hb3⟩
  have hs3 : Below w2.heap.size w2 w3 := Below.trans (by repeat (first | exact Below.refl _ _ | refine Below.alloc ?_ (by simp <;> omega) _)) (hb3.mono (by simp <;> omega))
  clear c_p2_0
  clear c_p2_1
  have c_x_0 : w3.cell? ⟨w2.heap.size, 0, none⟩ = some (.int .i64 xn) := (hb3.cell (by simp <;> omega)).trans (by go_simp)
  have c_x_1 : w3.cell? ⟨w2.heap.size, 1, none⟩ = some (.int .i64 xd) := (hb3.cell (by simp <;> omega)).trans (by go_simp)
  have z_x := World.block_lt_of_cell? _ _ c_x_0
  clear z_p2
  have hB3 := below_two hB2 hs3
  clear hB2 hs3 hb3
  go_wp2_with fail
  refine (add_any _ _ _ _ _).mono ?_
  rintro e w4 ⟨rfl, hb4⟩
  have hs4 : Below w3.heap.size w3 w4 := Below.trans (by repeat (first | exact Below.refl _ _ | refine Below.alloc ?_ (by simp <;> omega) _)) (hb4.mono (by simp <;> omega))
  replace c_x_0 := cell_later hs4 c_x_0
  replace c_x_1 := cell_later hs4 c_x_1
  have c_y_0 : w4.cell? ⟨w3.heap.size, 0, none⟩ = some (.int .i64 yn) := (hb4.cell (by simp <;> omega)).trans (by go_simp)
  have c_y_1 : w4.cell? ⟨w3.heap.size, 1, none⟩ = some (.int .i64 yd) := (hb4.cell (by simp <;> omega)).trans (by go_simp)
  clear z_x
  have z_x := World.block_lt_of_cell? _ _ c_x_0
  have z_y := World.block_lt_of_cell? _ _ c_y_0
  have hB4 := below_two hB3 hs4
  clear hB3 hs4 hb4
  rw [HS.out.1, HS.out.2.1, HS.out.2.2]
  go_wp2_with fail
  refine (sub_any _ _ _ _ _).mono ?_
  rintro e w5 ⟨rfl, hb5⟩
  have hs5 : Below w4.heap.size w4 w5 := Below.trans (by repeat (first | exact Below.refl _ _ | refine Below.alloc ?_ (by simp <;> omega) _)) (hb5.mono (by simp <;> omega))
  replace c_x_0 := cell_later hs5 c_x_0
  replace c_x_1 := cell_later hs5 c_x_1
  replace c_y_0 := cell_later hs5 c_y_0
  replace c_y_1 := cell_later hs5 c_y_1
  have c_s_0 : w5.cell? ⟨w4.heap.size, 0, none⟩ = some (.int .i64 sn) := (hb5.cell (by simp <;> omega)).trans (by go_simp)
  have c_s_1 : w5.cell? ⟨w4.heap.size, 1, none⟩ = some (.int .i64 sd) := (hb5.cell (by simp <;> omega)).trans (by go_simp)
  have z_s := World.block_lt_of_cell? _ _ c_s_0
  clear z_x
  have z_x := World.block_lt_of_cell? _ _ c_x_0
  clear z_y
  have z_y := World.block_lt_of_cell? _ _ c_y_0
  have hB5 := below_two hB4 hs5
  clear hB4 hs5 hb5
  rw [HD.out.1, HD.out.2.1, HD.out.2.2]
  go_wp2_with fail
  refine (mul_any _ _ _ _ _).mono ?_
  rintro e w6 ⟨rfl, hb6⟩
  have hs6 : Below w5.heap.size w5 w6 := Below.trans (by repeat (first | exact Below.refl _ _ | refine Below.alloc ?_ (by simp <;> omega) _)) (hb6.mono (by simp <;> omega))
  clear c_s_0
  clear c_s_1
  replace c_x_0 := cell_later hs6 c_x_0
  replace c_x_1 := cell_later hs6 c_x_1
  replace c_y_0 := cell_later hs6 c_y_0
  replace c_y_1 := cell_later hs6 c_y_1
  have c_dd_0 : w6.cell? ⟨w5.heap.size, 0, none⟩ = some (.int .i64 dn) := (hb6.cell (by simp <;> omega)).trans (by go_simp)
  have c_dd_1 : w6.cell? ⟨w5.heap.size, 1, none⟩ = some (.int .i64 dd) := (hb6.cell (by simp <;> omega)).trans (by go_simp)
  have z_dd := World.block_lt_of_cell? _ _ c_dd_0
  clear z_x
  have z_x := World.block_lt_of_cell? _ _ c_x_0
  clear z_y
  have z_y := World.block_lt_of_cell? _ _ c_y_0
  clear z_s
  have hB6 := below_two hB5 hs6
  clear hB5 hs6 hb6
  rw [HM.out.1, HM.out.2.1, HM.out.2.2]
  go_wp2_with fail
  refine (div_any _ _ _ _ _).mono ?_
  rintro e w7 ⟨rfl, hb7⟩
  have hs7 : Below w6.heap.size w6 w7 := Below.trans (by repeat (first | exact Below.refl _ _ | refine Below.alloc ?_ (by simp <;> omega) _)) (hb7.mono (by simp <;> omega))
  replace c_x_0 := cell_later hs7 c_x_0
  replace c_x_1 := cell_later hs7 c_x_1
  replace c_y_0 := cell_later hs7 c_y_0
  replace c_y_1 := cell_later hs7 c_y_1
  replace c_dd_0 := cell_later hs7 c_dd_0
  replace c_dd_1 := cell_later hs7 c_dd_1
  have c_m_0 : w7.cell? ⟨w6.heap.size, 0, none⟩ = some (.int .i64 mn) := (hb7.cell (by simp <;> omega)).trans (by go_simp)
  have c_m_1 : w7.cell? ⟨w6.heap.size, 1, none⟩ = some (.int .i64 md) := (hb7.cell (by simp <;> omega)).trans (by go_simp)
  clear z_dd
  have z_dd := World.block_lt_of_cell? _ _ c_dd_0
  have z_m := World.block_lt_of_cell? _ _ c_m_0
  clear z_x
  have z_x := World.block_lt_of_cell? _ _ c_x_0
  clear z_y
  have z_y := World.block_lt_of_cell? _ _ c_y_0
  have hB7 := below_two hB6 hs7
  clear hB6 hs7 hb7
  rw [HQ.out.1, HQ.out.2.1, HQ.out.2.2]
  go_wp2_with fail
  refine (sub_any _ _ _ _ _).mono ?_
  rintro e w8 ⟨rfl, hb8⟩
  have hs8 : Below w7.heap.size w7 w8 := Below.trans (by repeat (first | exact Below.refl _ _ | refine Below.alloc ?_ (by simp <;> omega) _)) (hb8.mono (by simp <;> omega))
  clear c_m_0
  clear c_m_1
  replace c_x_0 := cell_later hs8 c_x_0
  replace c_x_1 := cell_later hs8 c_x_1
  replace c_y_0 := cell_later hs8 c_y_0
  replace c_y_1 := cell_later hs8 c_y_1
  replace c_dd_0 := cell_later hs8 c_dd_0
  replace c_dd_1 := cell_later hs8 c_dd_1
  have c_q_0 : w8.cell? ⟨w7.heap.size, 0, none⟩ = some (.int .i64 qn) := (hb8.cell (by simp <;> omega)).trans (by go_simp)
  have c_q_1 : w8.cell? ⟨w7.heap.size, 1, none⟩ = some (.int .i64 qd) := (hb8.cell (by simp <;> omega)).trans (by go_simp)
  clear z_dd
  have z_dd := World.block_lt_of_cell? _ _ c_dd_0
  have z_q := World.block_lt_of_cell? _ _ c_q_0
  clear z_x
  have z_x := World.block_lt_of_cell? _ _ c_x_0
  clear z_y
  have z_y := World.block_lt_of_cell? _ _ c_y_0
  clear z_m
  have hB8 := below_two hB7 hs8
  clear hB7 hs8 hb8
  rw [HO.out.1, HO.out.2.1, HO.out.2.2]
  go_wp2_with fail
  refine (div_any _ _ _ _ _).mono ?_
  rintro e w9 ⟨rfl, hb9⟩
  have hs9 : Below w8.heap.size w8 w9 := Below.trans (by repeat (first | exact Below.refl _ _ | refine Below.alloc ?_ (by simp <;> omega) _)) (hb9.mono (by simp <;> omega))
  replace c_x_0 := cell_later hs9 c_x_0
  replace c_x_1 := cell_later hs9 c_x_1
  replace c_y_0 := cell_later hs9 c_y_0
  replace c_y_1 := cell_later hs9 c_y_1
  replace c_dd_0 := cell_later hs9 c_dd_0
  replace c_dd_1 := cell_later hs9 c_dd_1
  replace c_q_0 := cell_later hs9 c_q_0
  replace c_q_1 := cell_later hs9 c_q_1
  have c_o_0 : w9.cell? ⟨w8.heap.size, 0, none⟩ = some (.int .i64 0) := (hb9.cell (by simp <;> omega)).trans (by go_simp)
  have c_o_1 : w9.cell? ⟨w8.heap.size, 1, none⟩ = some (.int .i64 1) := (hb9.cell (by simp <;> omega)).trans (by go_simp)
  clear z_dd
  have z_dd := World.block_lt_of_cell? _ _ c_dd_0
  have z_o := World.block_lt_of_cell? _ _ c_o_0
  clear z_q
  have z_q := World.block_lt_of_cell? _ _ c_q_0
  clear z_x
  have z_x := World.block_lt_of_cell? _ _ c_x_0
  clear z_y
  have z_y := World.block_lt_of_cell? _ _ c_y_0
  have hB9 := below_two hB8 hs9
  clear hB8 hs9 hb9
  rw [HU.out.1, HU.out.2.1, HU.out.2.2]
  clear HX HY HS HD HM HQ HO HU
  go_wp2
  all_goals first
    | (go_ret; exact ⟨rfl, (hB9.alloc hB9.size _)⟩)
    | (exfalso; have i1 := HI1.out; clear HI1 heq hne hself; simp_all)

set_option maxRecDepth 100000 in
set_option maxHeartbeats 4000000 in
theorem back_w2 (a b c d xn xd yn yd sn sd e dn dd f mn md g qn qd h : Int) (w : World) (hR : Ready w) (HX : Hid (∀ w, Calls Tryd.prog 17 #[rt a b] w fun e w' => e = .returned (rt xn xd) ∧ Below w.heap.size w w')) (HY : Hid (∀ w, Calls Tryd.prog 17 #[rt c d] w fun e w' => e = .returned (rt yn yd) ∧ Below w.heap.size w w')) (HS : Hid (binN (Rat.right xn xd && Rat.right yn yd) (xn * yd + yn * xd) (xd * yd) = sn ∧ binD (Rat.right xn xd && Rat.right yn yd) (xn * yd + yn * xd) (xd * yd) = sd ∧ binE (Rat.right xn xd && Rat.right yn yd) (xn * yd + yn * xd) (xd * yd) = e)) (HD : Hid (binN (Rat.right sn sd && Rat.right yn yd) (sn * yd - yn * sd) (sd * yd) = dn ∧ binD (Rat.right sn sd && Rat.right yn yd) (sn * yd - yn * sd) (sd * yd) = dd ∧ binE (Rat.right sn sd && Rat.right yn yd) (sn * yd - yn * sd) (sd * yd) = f)) (HM : Hid (binN (Rat.right xn xd && Rat.right yn yd) (xn * yn) (xd * yd) = mn ∧ binD (Rat.right xn xd && Rat.right yn yd) (xn * yn) (xd * yd) = md ∧ binE (Rat.right xn xd && Rat.right yn yd) (xn * yn) (xd * yd) = g)) (HQ : Hid (binN (Rat.right mn md && Rat.right yn yd) (mn * yd) (md * yn) = qn ∧ binD (Rat.right mn md && Rat.right yn yd) (mn * yd) (md * yn) = qd ∧ binE (Rat.right mn md && Rat.right yn yd) (mn * yd) (md * yn) = h)) (HO : Hid (binN (Rat.right xn xd && Rat.right xn xd) (xn * xd - xn * xd) (xd * xd) = 0 ∧ binD (Rat.right xn xd && Rat.right xn xd) (xn * xd - xn * xd) (xd * xd) = 1 ∧ binE (Rat.right xn xd && Rat.right xn xd) (xn * xd - xn * xd) (xd * xd) = 0)) (HU : Hid (binN (Rat.right yn yd && Rat.right yn yd) (yn * yd) (yd * yn) = 1 ∧ binD (Rat.right yn yd && Rat.right yn yd) (yn * yd) (yd * yn) = 1 ∧ binE (Rat.right yn yd && Rat.right yn yd) (yn * yd) (yd * yn) = 0)) (HI1 : Hid (e = 0 → f = 0 ∧ eqR dn dd xn xd = true)) (HI2 : Hid (yn ≠ 0 → g = 0 → h = 0 ∧ eqR qn qd xn xd = true)) (hy0 : (yn == 0) = false) : Calls Tryd.prog 6 #[rt a b, rt c d] w fun e w' => e = .returned (.bool true) ∧ Below w.heap.size w w' := by
  have hgR := guardR
  have heq := eql_rt
  have hne := neq_rt
  have hself := eqR_self
  have hB0 : Below w.heap.size w w := Below.refl _ _
  go_enter Tryd.func6, Tryd.ntmps6
  go_wp2_with fail
  have hR' := hR.below (((Below.refl _ _).alloc (Nat.le_refl _) (.cells #[.int .i64 a, .int .i64 b] 23)).alloc (by simp) (.cells #[.int .i64 c, .int .i64 d] 23))
  refine (examples_any _ hR').mono ?_
  rintro e w1 ⟨rfl, hb1⟩
  have hs1 : Below w.heap.size w w1 := Below.trans (by repeat (first | exact Below.refl _ _ | refine Below.alloc ?_ (by simp <;> omega) _)) (hb1.mono (by simp <;> omega))
  have c_p_0 : w1.cell? ⟨w.heap.size, 0, none⟩ = some (.int .i64 a) := (hb1.cell (by simp <;> omega)).trans (by go_simp)
  have c_p_1 : w1.cell? ⟨w.heap.size, 1, none⟩ = some (.int .i64 b) := (hb1.cell (by simp <;> omega)).trans (by go_simp)
  have c_p2_0 : w1.cell? ⟨w.heap.size + 1, 0, none⟩ = some (.int .i64 c) := (hb1.cell (by simp <;> omega)).trans (by go_simp)
  have c_p2_1 : w1.cell? ⟨w.heap.size + 1, 1, none⟩ = some (.int .i64 d) := (hb1.cell (by simp <;> omega)).trans (by go_simp)
  have z_p := World.block_lt_of_cell? _ _ c_p_0
  have z_p2 := World.block_lt_of_cell? _ _ c_p2_0
  have hB1 := below_two hB0 hs1
  replace hR := hR.below hs1
  clear hB0 hs1 hb1
  clear hR'
  go_wp2_with fail
  refine (HX.out _).mono ?_
  rintro e w2 ⟨rfl, hb2⟩
  have hs2 := hb2
  clear c_p_0
  clear c_p_1
  replace c_p2_0 := cell_later hs2 c_p2_0
  replace c_p2_1 := cell_later hs2 c_p2_1
  clear z_p2
  have z_p2 := World.block_lt_of_cell? _ _ c_p2_0
  clear z_p
  have hB2 := below_two hB1 hs2
  clear hB1 hs2
  go_wp2_with fail
  refine (HY.out _).mono ?_
  rintro e w3 ⟨rfl, hb3⟩
  have hs3 : Below w2.heap.size w2 w3 := Below.trans (by repeat (first | exact Below.refl _ _ | refine Below.alloc ?_ (by simp <;> omega) _)) (hb3.mono (by simp <;> omega))
  clear c_p2_0
  clear c_p2_1
  have c_x_0 : w3.cell? ⟨w2.heap.size, 0, none⟩ = some (.int .i64 xn) := (hb3.cell (by simp <;> omega)).trans (by go_simp)
  have c_x_1 : w3.cell? ⟨w2.heap.size, 1, none⟩ = some (.int .i64 xd) := (hb3.cell (by simp <;> omega)).trans (by go_simp)
  have z_x := World.block_lt_of_cell? _ _ c_x_0
  clear z_p2
  have hB3 := below_two hB2 hs3
  clear hB2 hs3 hb3
  go_wp2_with fail
  refine (add_any _ _ _ _ _).mono ?_
  rintro e w4 ⟨rfl, hb4⟩
  have hs4 : Below w3.heap.size w3 w4 := Below.trans (by repeat (first | exact Below.refl _ _ | refine Below.alloc ?_ (by simp <;> omega) _)) (hb4.mono (by simp <;> omega))
  replace c_x_0 := cell_later hs4 c_x_0
  replace c_x_1 := cell_later hs4 c_x_1
  have c_y_0 : w4.cell? ⟨w3.heap.size, 0, none⟩ = some (.int .i64 yn) := (hb4.cell (by simp <;> omega)).trans (by go_simp)
  have c_y_1 : w4.cell? ⟨w3.heap.size, 1, none⟩ = some (.int .i64 yd) := (hb4.cell (by simp <;> omega)).trans (by go_simp)
  clear z_x
  have z_x := World.block_lt_of_cell? _ _ c_x_0
  have z_y := World.block_lt_of_cell? _ _ c_y_0
  have hB4 := below_two hB3 hs4
  clear hB3 hs4 hb4
  rw [HS.out.1, HS.out.2.1, HS.out.2.2]
  go_wp2_with fail
  refine (sub_any _ _ _ _ _).mono ?_
  rintro e w5 ⟨rfl, hb5⟩
  have hs5 : Below w4.heap.size w4 w5 := Below.trans (by repeat (first | exact Below.refl _ _ | refine Below.alloc ?_ (by simp <;> omega) _)) (hb5.mono (by simp <;> omega))
  replace c_x_0 := cell_later hs5 c_x_0
  replace c_x_1 := cell_later hs5 c_x_1
  replace c_y_0 := cell_later hs5 c_y_0
  replace c_y_1 := cell_later hs5 c_y_1
  have c_s_0 : w5.cell? ⟨w4.heap.size, 0, none⟩ = some (.int .i64 sn) := (hb5.cell (by simp <;> omega)).trans (by go_simp)
  have c_s_1 : w5.cell? ⟨w4.heap.size, 1, none⟩ = some (.int .i64 sd) := (hb5.cell (by simp <;> omega)).trans (by go_simp)
  have z_s := World.block_lt_of_cell? _ _ c_s_0
  clear z_x
  have z_x := World.block_lt_of_cell? _ _ c_x_0
  clear z_y
  have z_y := World.block_lt_of_cell? _ _ c_y_0
  have hB5 := below_two hB4 hs5
  clear hB4 hs5 hb5
  rw [HD.out.1, HD.out.2.1, HD.out.2.2]
  go_wp2_with fail
  refine (mul_any _ _ _ _ _).mono ?_
  rintro e w6 ⟨rfl, hb6⟩
  have hs6 : Below w5.heap.size w5 w6 := Below.trans (by repeat (first | exact Below.refl _ _ | refine Below.alloc ?_ (by simp <;> omega) _)) (hb6.mono (by simp <;> omega))
  clear c_s_0
  clear c_s_1
  replace c_x_0 := cell_later hs6 c_x_0
  replace c_x_1 := cell_later hs6 c_x_1
  replace c_y_0 := cell_later hs6 c_y_0
  replace c_y_1 := cell_later hs6 c_y_1
  have c_dd_0 : w6.cell? ⟨w5.heap.size, 0, none⟩ = some (.int .i64 dn) := (hb6.cell (by simp <;> omega)).trans (by go_simp)
  have c_dd_1 : w6.cell? ⟨w5.heap.size, 1, none⟩ = some (.int .i64 dd) := (hb6.cell (by simp <;> omega)).trans (by go_simp)
  have z_dd := World.block_lt_of_cell? _ _ c_dd_0
  clear z_x
  have z_x := World.block_lt_of_cell? _ _ c_x_0
  clear z_y
  have z_y := World.block_lt_of_cell? _ _ c_y_0
  clear z_s
  have hB6 := below_two hB5 hs6
  clear hB5 hs6 hb6
  rw [HM.out.1, HM.out.2.1, HM.out.2.2]
  go_wp2_with fail
  refine (div_any _ _ _ _ _).mono ?_
  rintro e w7 ⟨rfl, hb7⟩
  have hs7 : Below w6.heap.size w6 w7 := Below.trans (by repeat (first | exact Below.refl _ _ | refine Below.alloc ?_ (by simp <;> omega) _)) (hb7.mono (by simp <;> omega))
  replace c_x_0 := cell_later hs7 c_x_0
  replace c_x_1 := cell_later hs7 c_x_1
  replace c_y_0 := cell_later hs7 c_y_0
  replace c_y_1 := cell_later hs7 c_y_1
  replace c_dd_0 := cell_later hs7 c_dd_0
  replace c_dd_1 := cell_later hs7 c_dd_1
  have c_m_0 : w7.cell? ⟨w6.heap.size, 0, none⟩ = some (.int .i64 mn) := (hb7.cell (by simp <;> omega)).trans (by go_simp)
  have c_m_1 : w7.cell? ⟨w6.heap.size, 1, none⟩ = some (.int .i64 md) := (hb7.cell (by simp <;> omega)).trans (by go_simp)
  clear z_dd
  have z_dd := World.block_lt_of_cell? _ _ c_dd_0
  have z_m := World.block_lt_of_cell? _ _ c_m_0
  clear z_x
  have z_x := World.block_lt_of_cell? _ _ c_x_0
  clear z_y
  have z_y := World.block_lt_of_cell? _ _ c_y_0
  have hB7 := below_two hB6 hs7
  clear hB6 hs7 hb7
  rw [HQ.out.1, HQ.out.2.1, HQ.out.2.2]
  go_wp2_with fail
  refine (sub_any _ _ _ _ _).mono ?_
  rintro e w8 ⟨rfl, hb8⟩
  have hs8 : Below w7.heap.size w7 w8 := Below.trans (by repeat (first | exact Below.refl _ _ | refine Below.alloc ?_ (by simp <;> omega) _)) (hb8.mono (by simp <;> omega))
  clear c_m_0
  clear c_m_1
  replace c_x_0 := cell_later hs8 c_x_0
  replace c_x_1 := cell_later hs8 c_x_1
  replace c_y_0 := cell_later hs8 c_y_0
  replace c_y_1 := cell_later hs8 c_y_1
  replace c_dd_0 := cell_later hs8 c_dd_0
  replace c_dd_1 := cell_later hs8 c_dd_1
  have c_q_0 : w8.cell? ⟨w7.heap.size, 0, none⟩ = some (.int .i64 qn) := (hb8.cell (by simp <;> omega)).trans (by go_simp)
  have c_q_1 : w8.cell? ⟨w7.heap.size, 1, none⟩ = some (.int .i64 qd) := (hb8.cell (by simp <;> omega)).trans (by go_simp)
  clear z_dd
  have z_dd := World.block_lt_of_cell? _ _ c_dd_0
  have z_q := World.block_lt_of_cell? _ _ c_q_0
  clear z_x
  have z_x := World.block_lt_of_cell? _ _ c_x_0
  clear z_y
  have z_y := World.block_lt_of_cell? _ _ c_y_0
  clear z_m
  have hB8 := below_two hB7 hs8
  clear hB7 hs8 hb8
  rw [HO.out.1, HO.out.2.1, HO.out.2.2]
  go_wp2_with fail
  refine (div_any _ _ _ _ _).mono ?_
  rintro e w9 ⟨rfl, hb9⟩
  have hs9 : Below w8.heap.size w8 w9 := Below.trans (by repeat (first | exact Below.refl _ _ | refine Below.alloc ?_ (by simp <;> omega) _)) (hb9.mono (by simp <;> omega))
  replace c_x_0 := cell_later hs9 c_x_0
  replace c_x_1 := cell_later hs9 c_x_1
  replace c_y_0 := cell_later hs9 c_y_0
  replace c_y_1 := cell_later hs9 c_y_1
  replace c_dd_0 := cell_later hs9 c_dd_0
  replace c_dd_1 := cell_later hs9 c_dd_1
  replace c_q_0 := cell_later hs9 c_q_0
  replace c_q_1 := cell_later hs9 c_q_1
  have c_o_0 : w9.cell? ⟨w8.heap.size, 0, none⟩ = some (.int .i64 0) := (hb9.cell (by simp <;> omega)).trans (by go_simp)
  have c_o_1 : w9.cell? ⟨w8.heap.size, 1, none⟩ = some (.int .i64 1) := (hb9.cell (by simp <;> omega)).trans (by go_simp)
  clear z_dd
  have z_dd := World.block_lt_of_cell? _ _ c_dd_0
  have z_o := World.block_lt_of_cell? _ _ c_o_0
  clear z_q
  have z_q := World.block_lt_of_cell? _ _ c_q_0
  clear z_x
  have z_x := World.block_lt_of_cell? _ _ c_x_0
  clear z_y
  have z_y := World.block_lt_of_cell? _ _ c_y_0
  have hB9 := below_two hB8 hs9
  clear hB8 hs9 hb9
  rw [HU.out.1, HU.out.2.1, HU.out.2.2]
  clear HX HY HS HD HM HQ HO HU
  go_wp2
  all_goals first
    | (go_ret; exact ⟨rfl, (hB9.alloc hB9.size _)⟩)
    | (exfalso; have i1 := HI1.out; have i2 := HI2.out; clear HI1 HI2 heq hne hself; simp_all)

theorem back_add {xn xd yn yd sn sd e : Int} (hx : Rat.IsRight xn xd) (hy : Rat.IsRight yn yd) (h : binN (Rat.right xn xd && Rat.right yn yd) (xn * yd + yn * xd) (xd * yd) = sn ∧ binD (Rat.right xn xd && Rat.right yn yd) (xn * yd + yn * xd) (xd * yd) = sd ∧ binE (Rat.right xn xd && Rat.right yn yd) (xn * yd + yn * xd) (xd * yd) = e) (he : e = 0) :
    binE (Rat.right sn sd && Rat.right yn yd) (sn * yd - yn * sd) (sd * yd) = 0 ∧ eqR (binN (Rat.right sn sd && Rat.right yn yd) (sn * yd - yn * sd) (sd * yd)) (binD (Rat.right sn sd && Rat.right yn yd) (sn * yd - yn * sd) (sd * yd)) xn xd = true := by
  obtain ⟨rfl, rfl, rfl⟩ := h
  rcases bin_res (n := xn * yd + yn * xd) (m := xd * yd) hx hy with ⟨_, hr, e⟩ | ⟨hne, _⟩
  · obtain ⟨u, v, z⟩ := sub_back hx hy hr e
    exact ⟨z, (eqR_iff _ _ _ _).2 ⟨u, v⟩⟩
  · exact absurd he hne
theorem back_mul {xn xd yn yd mn md g : Int} (hx : Rat.IsRight xn xd) (hy : Rat.IsRight yn yd) (h : binN (Rat.right xn xd && Rat.right yn yd) (xn * yn) (xd * yd) = mn ∧ binD (Rat.right xn xd && Rat.right yn yd) (xn * yn) (xd * yd) = md ∧ binE (Rat.right xn xd && Rat.right yn yd) (xn * yn) (xd * yd) = g) (h0 : yn ≠ 0) (he : g = 0) :
    binE (Rat.right mn md && Rat.right yn yd) (mn * yd) (md * yn) = 0 ∧ eqR (binN (Rat.right mn md && Rat.right yn yd) (mn * yd) (md * yn)) (binD (Rat.right mn md && Rat.right yn yd) (mn * yd) (md * yn)) xn xd = true := by
  obtain ⟨rfl, rfl, rfl⟩ := h
  rcases bin_res (n := xn * yn) (m := xd * yd) hx hy with ⟨_, hr, e⟩ | ⟨hne, _⟩
  · obtain ⟨u, v, z⟩ := div_back hx hy hr h0 e
    exact ⟨z, (eqR_iff _ _ _ _).2 ⟨u, v⟩⟩
  · exact absurd he hne
theorem ratioBack_calls (a b c d : Int) (ha : Rat.I64 a) (hb : Rat.I64 b) (hc : Rat.I64 c) (hd : Rat.I64 d) (w : World) (hR : Ready w) : LawHolds 6 #[rt a b, rt c d] w := by
  obtain ⟨xn, xd, hx, hX⟩ := ratio_fix a b ha hb
  obtain ⟨yn, yd, hy, hY⟩ := ratio_fix c d hc hd
  by_cases h0 : yn = 0
  · exact back_w1 a b c d xn xd yn yd _ _ _ _ _ _ _ _ _ _ _ _ w hR (Lib.hid hX) (Lib.hid hY) (Lib.hid ⟨rfl, rfl, rfl⟩) (Lib.hid ⟨rfl, rfl, rfl⟩) (Lib.hid ⟨rfl, rfl, rfl⟩) (Lib.hid ⟨rfl, rfl, rfl⟩) (Lib.hid (sub_self hx)) (Lib.hid (div_zero hy h0))
      (Lib.hid fun he => back_add hx hy ⟨rfl, rfl, rfl⟩ he) (by simp [h0])
  · exact back_w2 a b c d xn xd yn yd _ _ _ _ _ _ _ _ _ _ _ _ w hR (Lib.hid hX) (Lib.hid hY) (Lib.hid ⟨rfl, rfl, rfl⟩) (Lib.hid ⟨rfl, rfl, rfl⟩) (Lib.hid ⟨rfl, rfl, rfl⟩) (Lib.hid ⟨rfl, rfl, rfl⟩) (Lib.hid (sub_self hx)) (Lib.hid (div_self hy h0))
      (Lib.hid fun he => back_add hx hy ⟨rfl, rfl, rfl⟩ he) (Lib.hid fun h0 he => back_mul hx hy ⟨rfl, rfl, rfl⟩ h0 he) (by simp [h0])
end Go.Proofs.YtgndmaihhkhnpaaDoor
