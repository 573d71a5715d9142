/-
  RatioTurns holds: the law's walk, part 4.
-/
import Derived.Test.YtgndmaihhkhnpaaDoorRatFacts
namespace Go.Proofs.YtgndmaihhkhnpaaDoor
open Go.RowKit

set_option maxRecDepth 100000 in
set_option maxHeartbeats 4000000 in
theorem turns_41 (a0 b0 a1 b1 a2 b2 xn xd yn yd zn zd sn sd mn md ln ld un ud pn pd vn vd qn qd wn wd bn bd tn td d add mul g o p q : Int) (w : World) (hR : Ready w) (HX : Hid (∀ w, Calls Tryd.prog 17 #[rt a0 b0] w fun e w' => e = .returned (rt xn xd) ∧ Below w.heap.size w w')) (HY : Hid (∀ w, Calls Tryd.prog 17 #[rt a1 b1] w fun e w' => e = .returned (rt yn yd) ∧ Below w.heap.size w w')) (HZ : Hid (∀ w, Calls Tryd.prog 17 #[rt a2 b2] w fun e w' => e = .returned (rt zn zd) ∧ Below w.heap.size w w')) (S1 : Hid (binN (Rat.right xn xd && Rat.right yn yd) (xn * yd + yn * xd) (xd * yd) = sn ∧ binD (Rat.right xn xd && Rat.right yn yd) (xn * yd + yn * xd) (xd * yd) = sd ∧ binE (Rat.right xn xd && Rat.right yn yd) (xn * yd + yn * xd) (xd * yd) = 0)) (S2 : Hid (binN (Rat.right yn yd && Rat.right xn xd) (yn * xd + xn * yd) (yd * xd) = sn ∧ binD (Rat.right yn yd && Rat.right xn xd) (yn * xd + xn * yd) (yd * xd) = sd ∧ binE (Rat.right yn yd && Rat.right xn xd) (yn * xd + xn * yd) (yd * xd) = 0)) (M1 : Hid (binN (Rat.right xn xd && Rat.right yn yd) (xn * yn) (xd * yd) = mn ∧ binD (Rat.right xn xd && Rat.right yn yd) (xn * yn) (xd * yd) = md ∧ binE (Rat.right xn xd && Rat.right yn yd) (xn * yn) (xd * yd) = g)) (M2 : Hid (binN (Rat.right yn yd && Rat.right xn xd) (yn * xn) (yd * xd) = mn ∧ binD (Rat.right yn yd && Rat.right xn xd) (yn * xn) (yd * xd) = md ∧ binE (Rat.right yn yd && Rat.right xn xd) (yn * xn) (yd * xd) = g)) (A1 : Hid (binN (Rat.right sn sd && Rat.right zn zd) (sn * zd + zn * sd) (sd * zd) = ln ∧ binD (Rat.right sn sd && Rat.right zn zd) (sn * zd + zn * sd) (sd * zd) = ld ∧ binE (Rat.right sn sd && Rat.right zn zd) (sn * zd + zn * sd) (sd * zd) = 0)) (A2 : Hid (binN (Rat.right yn yd && Rat.right zn zd) (yn * zd + zn * yd) (yd * zd) = un ∧ binD (Rat.right yn yd && Rat.right zn zd) (yn * zd + zn * yd) (yd * zd) = ud ∧ binE (Rat.right yn yd && Rat.right zn zd) (yn * zd + zn * yd) (yd * zd) = 0)) (A3 : Hid (binN (Rat.right xn xd && Rat.right un ud) (xn * ud + un * xd) (xd * ud) = ln ∧ binD (Rat.right xn xd && Rat.right un ud) (xn * ud + un * xd) (xd * ud) = ld ∧ binE (Rat.right xn xd && Rat.right un ud) (xn * ud + un * xd) (xd * ud) = 0)) (B1 : Hid (binN (Rat.right mn md && Rat.right zn zd) (mn * zn) (md * zd) = pn ∧ binD (Rat.right mn md && Rat.right zn zd) (mn * zn) (md * zd) = pd ∧ binE (Rat.right mn md && Rat.right zn zd) (mn * zn) (md * zd) = o)) (B2 : Hid (binN (Rat.right yn yd && Rat.right zn zd) (yn * zn) (yd * zd) = vn ∧ binD (Rat.right yn yd && Rat.right zn zd) (yn * zn) (yd * zd) = vd ∧ binE (Rat.right yn yd && Rat.right zn zd) (yn * zn) (yd * zd) = p)) (B3 : Hid (binN (Rat.right xn xd && Rat.right vn vd) (xn * vn) (xd * vd) = qn ∧ binD (Rat.right xn xd && Rat.right vn vd) (xn * vn) (xd * vd) = qd ∧ binE (Rat.right xn xd && Rat.right vn vd) (xn * vn) (xd * vd) = q)) (D1 : Hid (binN (Rat.right xn xd && Rat.right zn zd) (xn * zn) (xd * zd) = wn ∧ binD (Rat.right xn xd && Rat.right zn zd) (xn * zn) (xd * zd) = wd ∧ binE (Rat.right xn xd && Rat.right zn zd) (xn * zn) (xd * zd) = d)) (D2 : Hid (binN (Rat.right wn wd && Rat.right vn vd) (wn * vd + vn * wd) (wd * vd) = bn ∧ binD (Rat.right wn wd && Rat.right vn vd) (wn * vd + vn * wd) (wd * vd) = bd ∧ binE (Rat.right wn wd && Rat.right vn vd) (wn * vd + vn * wd) (wd * vd) = add)) (D3 : Hid (binN (Rat.right sn sd && Rat.right zn zd) (sn * zn) (sd * zd) = tn ∧ binD (Rat.right sn sd && Rat.right zn zd) (sn * zn) (sd * zd) = td ∧ binE (Rat.right sn sd && Rat.right zn zd) (sn * zn) (sd * zd) = mul)) (hb : (g == 0) = false) (HI : Hid (d = 0 → p = 0 → add = 0 → 0 = 0 → mul = 0 ∧ eqR tn td bn bd = true)) : Calls Tryd.prog 5 #[rt a0 b0, rt a1 b1, rt a2 b2] w fun e w' => e = .returned (.bool true) ∧ Below w.heap.size w w' := by
  have hgR := guardR
  have heq := eql_rt
  have hne := neq_rt
  have hself := eqR_self
  have hB0 : Below w.heap.size w w := Below.refl _ _
  go_enter Tryd.func5, Tryd.ntmps5
  go_wp2_with fail
  have hR' := hR.below ((((Below.refl _ _).alloc (Nat.le_refl _) (.cells #[.int .i64 a0, .int .i64 b0] 23)).alloc (by simp) (.cells #[.int .i64 a1, .int .i64 b1] 23)).alloc (by simp; omega) (.cells #[.int .i64 a2, .int .i64 b2] 23))
  refine (examples_any _ hR').mono ?_
  rintro e w1 ⟨rfl, hb1⟩
  have hs1 : Below w.heap.size w w1 := Below.trans (by repeat (first | exact Below.refl _ _ | refine Below.alloc ?_ (by simp <;> omega) _)) (hb1.mono (by simp <;> omega))
  have c_p0_0 : w1.cell? ⟨w.heap.size, 0, none⟩ = some (.int .i64 (a0)) := (hb1.cell (by simp <;> omega)).trans (by go_simp)
  have c_p0_1 : w1.cell? ⟨w.heap.size, 1, none⟩ = some (.int .i64 (b0)) := (hb1.cell (by simp <;> omega)).trans (by go_simp)
  have c_p1_0 : w1.cell? ⟨w.heap.size + 1, 0, none⟩ = some (.int .i64 (a1)) := (hb1.cell (by simp <;> omega)).trans (by go_simp)
  have c_p1_1 : w1.cell? ⟨w.heap.size + 1, 1, none⟩ = some (.int .i64 (b1)) := (hb1.cell (by simp <;> omega)).trans (by go_simp)
  have c_p2_0 : w1.cell? ⟨w.heap.size + 1 + 1, 0, none⟩ = some (.int .i64 (a2)) := (hb1.cell (by simp <;> omega)).trans (by go_simp)
  have c_p2_1 : w1.cell? ⟨w.heap.size + 1 + 1, 1, none⟩ = some (.int .i64 (b2)) := (hb1.cell (by simp <;> omega)).trans (by go_simp)
  have z_p0 := World.block_lt_of_cell? _ _ c_p0_0
  have z_p1 := World.block_lt_of_cell? _ _ c_p1_0
  have z_p2 := World.block_lt_of_cell? _ _ c_p2_0
  have hB1 := below_two hB0 hs1
  clear hB0 hs1 hb1
  clear hR' hR
  go_wp2_with fail
  refine (HX.out _).mono ?_
  rintro e w2 ⟨rfl, hb2⟩
  have hs2 := hb2
  clear c_p0_0
  clear c_p0_1
  replace c_p1_0 := cell_later hs2 c_p1_0
  replace c_p1_1 := cell_later hs2 c_p1_1
  replace c_p2_0 := cell_later hs2 c_p2_0
  replace c_p2_1 := cell_later hs2 c_p2_1
  clear z_p1
  have z_p1 := World.block_lt_of_cell? _ _ c_p1_0
  clear z_p2
  have z_p2 := World.block_lt_of_cell? _ _ c_p2_0
  clear z_p0
  have hB2 := below_two hB1 hs2
  clear hB1 hs2
  go_wp2_with fail
  refine (HY.out _).mono ?_
  rintro e w3 ⟨rfl, hb3⟩
  have hs3 : Below w2.heap.size w2 w3 := Below.trans (by repeat (first | exact Below.refl _ _ | refine Below.alloc ?_ (by simp <;> omega) _)) (hb3.mono (by simp <;> omega))
  clear c_p1_0
  clear c_p1_1
  replace c_p2_0 := cell_later hs3 c_p2_0
  replace c_p2_1 := cell_later hs3 c_p2_1
  have c_x_0 : w3.cell? ⟨w2.heap.size, 0, none⟩ = some (.int .i64 (xn)) := (hb3.cell (by simp <;> omega)).trans (by go_simp)
  have c_x_1 : w3.cell? ⟨w2.heap.size, 1, none⟩ = some (.int .i64 (xd)) := (hb3.cell (by simp <;> omega)).trans (by go_simp)
  clear z_p2
  have z_p2 := World.block_lt_of_cell? _ _ c_p2_0
  have z_x := World.block_lt_of_cell? _ _ c_x_0
  clear z_p1
  have hB3 := below_two hB2 hs3
  clear hB2 hs3 hb3
  go_wp2_with fail
  refine (HZ.out _).mono ?_
  rintro e w4 ⟨rfl, hb4⟩
  have hs4 : Below w3.heap.size w3 w4 := Below.trans (by repeat (first | exact Below.refl _ _ | refine Below.alloc ?_ (by simp <;> omega) _)) (hb4.mono (by simp <;> omega))
  clear c_p2_0
  clear c_p2_1
  replace c_x_0 := cell_later hs4 c_x_0
  replace c_x_1 := cell_later hs4 c_x_1
  have c_y_0 : w4.cell? ⟨w3.heap.size, 0, none⟩ = some (.int .i64 (yn)) := (hb4.cell (by simp <;> omega)).trans (by go_simp)
  have c_y_1 : w4.cell? ⟨w3.heap.size, 1, none⟩ = some (.int .i64 (yd)) := (hb4.cell (by simp <;> omega)).trans (by go_simp)
  clear z_x
  have z_x := World.block_lt_of_cell? _ _ c_x_0
  have z_y := World.block_lt_of_cell? _ _ c_y_0
  clear z_p2
  have hB4 := below_two hB3 hs4
  clear hB3 hs4 hb4
  go_wp2_with fail
  refine (add_any _ _ _ _ _).mono ?_
  rintro e w5 ⟨rfl, hb5⟩
  have hs5 : Below w4.heap.size w4 w5 := Below.trans (by repeat (first | exact Below.refl _ _ | refine Below.alloc ?_ (by simp <;> omega) _)) (hb5.mono (by simp <;> omega))
  replace c_x_0 := cell_later hs5 c_x_0
  replace c_x_1 := cell_later hs5 c_x_1
  replace c_y_0 := cell_later hs5 c_y_0
  replace c_y_1 := cell_later hs5 c_y_1
  have c_z_0 : w5.cell? ⟨w4.heap.size, 0, none⟩ = some (.int .i64 (zn)) := (hb5.cell (by simp <;> omega)).trans (by go_simp)
  have c_z_1 : w5.cell? ⟨w4.heap.size, 1, none⟩ = some (.int .i64 (zd)) := (hb5.cell (by simp <;> omega)).trans (by go_simp)
  clear z_x
  have z_x := World.block_lt_of_cell? _ _ c_x_0
  clear z_y
  have z_y := World.block_lt_of_cell? _ _ c_y_0
  have z_z := World.block_lt_of_cell? _ _ c_z_0
  have hB5 := below_two hB4 hs5
  clear hB4 hs5 hb5
  rw [S1.out.1, S1.out.2.1, S1.out.2.2]
  go_wp2_with fail
  refine (add_any _ _ _ _ _).mono ?_
  rintro e w6 ⟨rfl, hb6⟩
  have hs6 : Below w5.heap.size w5 w6 := Below.trans (by repeat (first | exact Below.refl _ _ | refine Below.alloc ?_ (by simp <;> omega) _)) (hb6.mono (by simp <;> omega))
  replace c_x_0 := cell_later hs6 c_x_0
  replace c_x_1 := cell_later hs6 c_x_1
  replace c_y_0 := cell_later hs6 c_y_0
  replace c_y_1 := cell_later hs6 c_y_1
  replace c_z_0 := cell_later hs6 c_z_0
  replace c_z_1 := cell_later hs6 c_z_1
  have c_s_0 : w6.cell? ⟨w5.heap.size, 0, none⟩ = some (.int .i64 (sn)) := (hb6.cell (by simp <;> omega)).trans (by go_simp)
  have c_s_1 : w6.cell? ⟨w5.heap.size, 1, none⟩ = some (.int .i64 (sd)) := (hb6.cell (by simp <;> omega)).trans (by go_simp)
  have z_s := World.block_lt_of_cell? _ _ c_s_0
  clear z_x
  have z_x := World.block_lt_of_cell? _ _ c_x_0
  clear z_y
  have z_y := World.block_lt_of_cell? _ _ c_y_0
  clear z_z
  have z_z := World.block_lt_of_cell? _ _ c_z_0
  have hB6 := below_two hB5 hs6
  clear hB5 hs6 hb6
  rw [S2.out.1, S2.out.2.1, S2.out.2.2]
  go_wp2_with fail
  refine (mul_any _ _ _ _ _).mono ?_
  rintro e w7 ⟨rfl, hb7⟩
  have hs7 : Below w6.heap.size w6 w7 := Below.trans (by repeat (first | exact Below.refl _ _ | refine Below.alloc ?_ (by simp <;> omega) _)) (hb7.mono (by simp <;> omega))
  replace c_x_0 := cell_later hs7 c_x_0
  replace c_x_1 := cell_later hs7 c_x_1
  replace c_y_0 := cell_later hs7 c_y_0
  replace c_y_1 := cell_later hs7 c_y_1
  replace c_z_0 := cell_later hs7 c_z_0
  replace c_z_1 := cell_later hs7 c_z_1
  replace c_s_0 := cell_later hs7 c_s_0
  replace c_s_1 := cell_later hs7 c_s_1
  have c_t_0 : w7.cell? ⟨w6.heap.size, 0, none⟩ = some (.int .i64 (sn)) := (hb7.cell (by simp <;> omega)).trans (by go_simp)
  have c_t_1 : w7.cell? ⟨w6.heap.size, 1, none⟩ = some (.int .i64 (sd)) := (hb7.cell (by simp <;> omega)).trans (by go_simp)
  clear z_s
  have z_s := World.block_lt_of_cell? _ _ c_s_0
  have z_t := World.block_lt_of_cell? _ _ c_t_0
  clear z_x
  have z_x := World.block_lt_of_cell? _ _ c_x_0
  clear z_y
  have z_y := World.block_lt_of_cell? _ _ c_y_0
  clear z_z
  have z_z := World.block_lt_of_cell? _ _ c_z_0
  have hB7 := below_two hB6 hs7
  clear hB6 hs7 hb7
  rw [M1.out.1, M1.out.2.1, M1.out.2.2]
  go_wp2_with fail
  refine (mul_any _ _ _ _ _).mono ?_
  rintro e w8 ⟨rfl, hb8⟩
  have hs8 : Below w7.heap.size w7 w8 := Below.trans (by repeat (first | exact Below.refl _ _ | refine Below.alloc ?_ (by simp <;> omega) _)) (hb8.mono (by simp <;> omega))
  replace c_x_0 := cell_later hs8 c_x_0
  replace c_x_1 := cell_later hs8 c_x_1
  replace c_y_0 := cell_later hs8 c_y_0
  replace c_y_1 := cell_later hs8 c_y_1
  replace c_z_0 := cell_later hs8 c_z_0
  replace c_z_1 := cell_later hs8 c_z_1
  replace c_s_0 := cell_later hs8 c_s_0
  replace c_s_1 := cell_later hs8 c_s_1
  replace c_t_0 := cell_later hs8 c_t_0
  replace c_t_1 := cell_later hs8 c_t_1
  have c_m_0 : w8.cell? ⟨w7.heap.size, 0, none⟩ = some (.int .i64 (mn)) := (hb8.cell (by simp <;> omega)).trans (by go_simp)
  have c_m_1 : w8.cell? ⟨w7.heap.size, 1, none⟩ = some (.int .i64 (md)) := (hb8.cell (by simp <;> omega)).trans (by go_simp)
  have z_m := World.block_lt_of_cell? _ _ c_m_0
  clear z_s
  have z_s := World.block_lt_of_cell? _ _ c_s_0
  clear z_t
  have z_t := World.block_lt_of_cell? _ _ c_t_0
  clear z_x
  have z_x := World.block_lt_of_cell? _ _ c_x_0
  clear z_y
  have z_y := World.block_lt_of_cell? _ _ c_y_0
  clear z_z
  have z_z := World.block_lt_of_cell? _ _ c_z_0
  have hB8 := below_two hB7 hs8
  clear hB7 hs8 hb8
  rw [M2.out.1, M2.out.2.1, M2.out.2.2]
  go_wp2_with fail
  refine (add_any _ _ _ _ _).mono ?_
  rintro e w9 ⟨rfl, hb9⟩
  have hs9 : Below w8.heap.size w8 w9 := Below.trans (by repeat (first | exact Below.refl _ _ | refine Below.alloc ?_ (by simp <;> omega) _)) (hb9.mono (by simp <;> omega))
  clear c_t_0
  clear c_t_1
  replace c_x_0 := cell_later hs9 c_x_0
  replace c_x_1 := cell_later hs9 c_x_1
  replace c_y_0 := cell_later hs9 c_y_0
  replace c_y_1 := cell_later hs9 c_y_1
  replace c_z_0 := cell_later hs9 c_z_0
  replace c_z_1 := cell_later hs9 c_z_1
  replace c_s_0 := cell_later hs9 c_s_0
  replace c_s_1 := cell_later hs9 c_s_1
  replace c_m_0 := cell_later hs9 c_m_0
  replace c_m_1 := cell_later hs9 c_m_1
  clear z_m
  have z_m := World.block_lt_of_cell? _ _ c_m_0
  clear z_s
  have z_s := World.block_lt_of_cell? _ _ c_s_0
  clear z_x
  have z_x := World.block_lt_of_cell? _ _ c_x_0
  clear z_y
  have z_y := World.block_lt_of_cell? _ _ c_y_0
  clear z_z
  have z_z := World.block_lt_of_cell? _ _ c_z_0
  clear z_t
  have hB9 := below_two hB8 hs9
  clear hB8 hs9 hb9
  rw [A1.out.1, A1.out.2.1, A1.out.2.2]
  go_wp2_with fail
  refine (add_any _ _ _ _ _).mono ?_
  rintro e w10 ⟨rfl, hb10⟩
  have hs10 : Below w9.heap.size w9 w10 := Below.trans (by repeat (first | exact Below.refl _ _ | refine Below.alloc ?_ (by simp <;> omega) _)) (hb10.mono (by simp <;> omega))
  replace c_x_0 := cell_later hs10 c_x_0
  replace c_x_1 := cell_later hs10 c_x_1
  replace c_y_0 := cell_later hs10 c_y_0
  replace c_y_1 := cell_later hs10 c_y_1
  replace c_z_0 := cell_later hs10 c_z_0
  replace c_z_1 := cell_later hs10 c_z_1
  replace c_s_0 := cell_later hs10 c_s_0
  replace c_s_1 := cell_later hs10 c_s_1
  replace c_m_0 := cell_later hs10 c_m_0
  replace c_m_1 := cell_later hs10 c_m_1
  have c_l_0 : w10.cell? ⟨w9.heap.size, 0, none⟩ = some (.int .i64 (ln)) := (hb10.cell (by simp <;> omega)).trans (by go_simp)
  have c_l_1 : w10.cell? ⟨w9.heap.size, 1, none⟩ = some (.int .i64 (ld)) := (hb10.cell (by simp <;> omega)).trans (by go_simp)
  have z_l := World.block_lt_of_cell? _ _ c_l_0
  clear z_m
  have z_m := World.block_lt_of_cell? _ _ c_m_0
  clear z_s
  have z_s := World.block_lt_of_cell? _ _ c_s_0
  clear z_x
  have z_x := World.block_lt_of_cell? _ _ c_x_0
  clear z_y
  have z_y := World.block_lt_of_cell? _ _ c_y_0
  clear z_z
  have z_z := World.block_lt_of_cell? _ _ c_z_0
  have hB10 := below_two hB9 hs10
  clear hB9 hs10 hb10
  rw [A2.out.1, A2.out.2.1, A2.out.2.2]
  go_wp2_with fail
  refine (add_any _ _ _ _ _).mono ?_
  rintro e w11 ⟨rfl, hb11⟩
  have hs11 : Below w10.heap.size w10 w11 := Below.trans (by repeat (first | exact Below.refl _ _ | refine Below.alloc ?_ (by simp <;> omega) _)) (hb11.mono (by simp <;> omega))
  replace c_x_0 := cell_later hs11 c_x_0
  replace c_x_1 := cell_later hs11 c_x_1
  replace c_y_0 := cell_later hs11 c_y_0
  replace c_y_1 := cell_later hs11 c_y_1
  replace c_z_0 := cell_later hs11 c_z_0
  replace c_z_1 := cell_later hs11 c_z_1
  replace c_s_0 := cell_later hs11 c_s_0
  replace c_s_1 := cell_later hs11 c_s_1
  replace c_m_0 := cell_later hs11 c_m_0
  replace c_m_1 := cell_later hs11 c_m_1
  replace c_l_0 := cell_later hs11 c_l_0
  replace c_l_1 := cell_later hs11 c_l_1
  have c_u_0 : w11.cell? ⟨w10.heap.size, 0, none⟩ = some (.int .i64 (un)) := (hb11.cell (by simp <;> omega)).trans (by go_simp)
  have c_u_1 : w11.cell? ⟨w10.heap.size, 1, none⟩ = some (.int .i64 (ud)) := (hb11.cell (by simp <;> omega)).trans (by go_simp)
  clear z_l
  have z_l := World.block_lt_of_cell? _ _ c_l_0
  clear z_m
  have z_m := World.block_lt_of_cell? _ _ c_m_0
  clear z_s
  have z_s := World.block_lt_of_cell? _ _ c_s_0
  have z_u := World.block_lt_of_cell? _ _ c_u_0
  clear z_x
  have z_x := World.block_lt_of_cell? _ _ c_x_0
  clear z_y
  have z_y := World.block_lt_of_cell? _ _ c_y_0
  clear z_z
  have z_z := World.block_lt_of_cell? _ _ c_z_0
  have hB11 := below_two hB10 hs11
  clear hB10 hs11 hb11
  rw [A3.out.1, A3.out.2.1, A3.out.2.2]
  go_wp2_with fail
  refine (mul_any _ _ _ _ _).mono ?_
  rintro e w12 ⟨rfl, hb12⟩
  have hs12 : Below w11.heap.size w11 w12 := Below.trans (by repeat (first | exact Below.refl _ _ | refine Below.alloc ?_ (by simp <;> omega) _)) (hb12.mono (by simp <;> omega))
  clear c_l_0
  clear c_l_1
  clear c_u_0
  clear c_u_1
  replace c_x_0 := cell_later hs12 c_x_0
  replace c_x_1 := cell_later hs12 c_x_1
  replace c_y_0 := cell_later hs12 c_y_0
  replace c_y_1 := cell_later hs12 c_y_1
  replace c_z_0 := cell_later hs12 c_z_0
  replace c_z_1 := cell_later hs12 c_z_1
  replace c_s_0 := cell_later hs12 c_s_0
  replace c_s_1 := cell_later hs12 c_s_1
  replace c_m_0 := cell_later hs12 c_m_0
  replace c_m_1 := cell_later hs12 c_m_1
  clear z_m
  have z_m := World.block_lt_of_cell? _ _ c_m_0
  clear z_s
  have z_s := World.block_lt_of_cell? _ _ c_s_0
  clear z_x
  have z_x := World.block_lt_of_cell? _ _ c_x_0
  clear z_y
  have z_y := World.block_lt_of_cell? _ _ c_y_0
  clear z_z
  have z_z := World.block_lt_of_cell? _ _ c_z_0
  clear z_l
  clear z_u
  have hB12 := below_two hB11 hs12
  clear hB11 hs12 hb12
  rw [B1.out.1, B1.out.2.1, B1.out.2.2]
  go_wp2_with fail
  refine (mul_any _ _ _ _ _).mono ?_
  rintro e w13 ⟨rfl, hb13⟩
  have hs13 : Below w12.heap.size w12 w13 := Below.trans (by repeat (first | exact Below.refl _ _ | refine Below.alloc ?_ (by simp <;> omega) _)) (hb13.mono (by simp <;> omega))
  replace c_x_0 := cell_later hs13 c_x_0
  replace c_x_1 := cell_later hs13 c_x_1
  replace c_y_0 := cell_later hs13 c_y_0
  replace c_y_1 := cell_later hs13 c_y_1
  replace c_z_0 := cell_later hs13 c_z_0
  replace c_z_1 := cell_later hs13 c_z_1
  replace c_s_0 := cell_later hs13 c_s_0
  replace c_s_1 := cell_later hs13 c_s_1
  replace c_m_0 := cell_later hs13 c_m_0
  replace c_m_1 := cell_later hs13 c_m_1
  have c_p_0 : w13.cell? ⟨w12.heap.size, 0, none⟩ = some (.int .i64 (pn)) := (hb13.cell (by simp <;> omega)).trans (by go_simp)
  have c_p_1 : w13.cell? ⟨w12.heap.size, 1, none⟩ = some (.int .i64 (pd)) := (hb13.cell (by simp <;> omega)).trans (by go_simp)
  clear z_m
  have z_m := World.block_lt_of_cell? _ _ c_m_0
  have z_p := World.block_lt_of_cell? _ _ c_p_0
  clear z_s
  have z_s := World.block_lt_of_cell? _ _ c_s_0
  clear z_x
  have z_x := World.block_lt_of_cell? _ _ c_x_0
  clear z_y
  have z_y := World.block_lt_of_cell? _ _ c_y_0
  clear z_z
  have z_z := World.block_lt_of_cell? _ _ c_z_0
  have hB13 := below_two hB12 hs13
  clear hB12 hs13 hb13
  rw [B2.out.1, B2.out.2.1, B2.out.2.2]
  go_wp2_with fail
  refine (mul_any _ _ _ _ _).mono ?_
  rintro e w14 ⟨rfl, hb14⟩
  have hs14 : Below w13.heap.size w13 w14 := Below.trans (by repeat (first | exact Below.refl _ _ | refine Below.alloc ?_ (by simp <;> omega) _)) (hb14.mono (by simp <;> omega))
  replace c_x_0 := cell_later hs14 c_x_0
  replace c_x_1 := cell_later hs14 c_x_1
  replace c_y_0 := cell_later hs14 c_y_0
  replace c_y_1 := cell_later hs14 c_y_1
  replace c_z_0 := cell_later hs14 c_z_0
  replace c_z_1 := cell_later hs14 c_z_1
  replace c_s_0 := cell_later hs14 c_s_0
  replace c_s_1 := cell_later hs14 c_s_1
  replace c_m_0 := cell_later hs14 c_m_0
  replace c_m_1 := cell_later hs14 c_m_1
  replace c_p_0 := cell_later hs14 c_p_0
  replace c_p_1 := cell_later hs14 c_p_1
  have c_v_0 : w14.cell? ⟨w13.heap.size, 0, none⟩ = some (.int .i64 (vn)) := (hb14.cell (by simp <;> omega)).trans (by go_simp)
  have c_v_1 : w14.cell? ⟨w13.heap.size, 1, none⟩ = some (.int .i64 (vd)) := (hb14.cell (by simp <;> omega)).trans (by go_simp)
  clear z_m
  have z_m := World.block_lt_of_cell? _ _ c_m_0
  clear z_p
  have z_p := World.block_lt_of_cell? _ _ c_p_0
  clear z_s
  have z_s := World.block_lt_of_cell? _ _ c_s_0
  have z_v := World.block_lt_of_cell? _ _ c_v_0
  clear z_x
  have z_x := World.block_lt_of_cell? _ _ c_x_0
  clear z_y
  have z_y := World.block_lt_of_cell? _ _ c_y_0
  clear z_z
  have z_z := World.block_lt_of_cell? _ _ c_z_0
  have hB14 := below_two hB13 hs14
  clear hB13 hs14 hb14
  rw [B3.out.1, B3.out.2.1, B3.out.2.2]
  go_wp2_with fail
  refine (mul_any _ _ _ _ _).mono ?_
  rintro e w15 ⟨rfl, hb15⟩
  have hs15 : Below w14.heap.size w14 w15 := Below.trans (by repeat (first | exact Below.refl _ _ | refine Below.alloc ?_ (by simp <;> omega) _)) (hb15.mono (by simp <;> omega))
  clear c_p_0
  clear c_p_1
  replace c_x_0 := cell_later hs15 c_x_0
  replace c_x_1 := cell_later hs15 c_x_1
  replace c_y_0 := cell_later hs15 c_y_0
  replace c_y_1 := cell_later hs15 c_y_1
  replace c_z_0 := cell_later hs15 c_z_0
  replace c_z_1 := cell_later hs15 c_z_1
  replace c_s_0 := cell_later hs15 c_s_0
  replace c_s_1 := cell_later hs15 c_s_1
  replace c_m_0 := cell_later hs15 c_m_0
  replace c_m_1 := cell_later hs15 c_m_1
  replace c_v_0 := cell_later hs15 c_v_0
  replace c_v_1 := cell_later hs15 c_v_1
  clear z_m
  have z_m := World.block_lt_of_cell? _ _ c_m_0
  clear z_s
  have z_s := World.block_lt_of_cell? _ _ c_s_0
  clear z_v
  have z_v := World.block_lt_of_cell? _ _ c_v_0
  clear z_x
  have z_x := World.block_lt_of_cell? _ _ c_x_0
  clear z_y
  have z_y := World.block_lt_of_cell? _ _ c_y_0
  clear z_z
  have z_z := World.block_lt_of_cell? _ _ c_z_0
  clear z_p
  have hB15 := below_two hB14 hs15
  clear hB14 hs15 hb15
  rw [D1.out.1, D1.out.2.1, D1.out.2.2]
  go_wp2_with fail
  refine (add_any _ _ _ _ _).mono ?_
  rintro e w16 ⟨rfl, hb16⟩
  have hs16 : Below w15.heap.size w15 w16 := Below.trans (by repeat (first | exact Below.refl _ _ | refine Below.alloc ?_ (by simp <;> omega) _)) (hb16.mono (by simp <;> omega))
  clear c_x_0
  clear c_x_1
  clear c_y_0
  clear c_y_1
  clear c_m_0
  clear c_m_1
  replace c_z_0 := cell_later hs16 c_z_0
  replace c_z_1 := cell_later hs16 c_z_1
  replace c_s_0 := cell_later hs16 c_s_0
  replace c_s_1 := cell_later hs16 c_s_1
  replace c_v_0 := cell_later hs16 c_v_0
  replace c_v_1 := cell_later hs16 c_v_1
  have c_w0_0 : w16.cell? ⟨w15.heap.size, 0, none⟩ = some (.int .i64 (wn)) := (hb16.cell (by simp <;> omega)).trans (by go_simp)
  have c_w0_1 : w16.cell? ⟨w15.heap.size, 1, none⟩ = some (.int .i64 (wd)) := (hb16.cell (by simp <;> omega)).trans (by go_simp)
  clear z_s
  have z_s := World.block_lt_of_cell? _ _ c_s_0
  clear z_v
  have z_v := World.block_lt_of_cell? _ _ c_v_0
  have z_w0 := World.block_lt_of_cell? _ _ c_w0_0
  clear z_z
  have z_z := World.block_lt_of_cell? _ _ c_z_0
  clear z_m
  clear z_x
  clear z_y
  have hB16 := below_two hB15 hs16
  clear hB15 hs16 hb16
  rw [D2.out.1, D2.out.2.1, D2.out.2.2]
  go_wp2_with fail
  refine (mul_any _ _ _ _ _).mono ?_
  rintro e w17 ⟨rfl, hb17⟩
  have hs17 : Below w16.heap.size w16 w17 := Below.trans (by repeat (first | exact Below.refl _ _ | refine Below.alloc ?_ (by simp <;> omega) _)) (hb17.mono (by simp <;> omega))
  clear c_v_0
  clear c_v_1
  clear c_w0_0
  clear c_w0_1
  replace c_z_0 := cell_later hs17 c_z_0
  replace c_z_1 := cell_later hs17 c_z_1
  replace c_s_0 := cell_later hs17 c_s_0
  replace c_s_1 := cell_later hs17 c_s_1
  have c_b_0 : w17.cell? ⟨w16.heap.size, 0, none⟩ = some (.int .i64 (bn)) := (hb17.cell (by simp <;> omega)).trans (by go_simp)
  have c_b_1 : w17.cell? ⟨w16.heap.size, 1, none⟩ = some (.int .i64 (bd)) := (hb17.cell (by simp <;> omega)).trans (by go_simp)
  have z_b := World.block_lt_of_cell? _ _ c_b_0
  clear z_s
  have z_s := World.block_lt_of_cell? _ _ c_s_0
  clear z_z
  have z_z := World.block_lt_of_cell? _ _ c_z_0
  clear z_v
  clear z_w0
  have hB17 := below_two hB16 hs17
  clear hB16 hs17 hb17
  rw [D3.out.1, D3.out.2.1, D3.out.2.2]
  clear HX HY HZ S1 S2 M1 M2 A1 A2 A3 B1 B2 B3 D1 D2 D3
  go_wp2
  all_goals first
    | (go_ret; exact ⟨rfl, (hB17.alloc hB17.size _)⟩)
    | (have i1 := HI.out; clear HI heq hne hself; go_ret; refine ⟨ret_bool ?_, (hB17.alloc hB17.size _)⟩; simp_all; done)
    | (exfalso; have i1 := HI.out; clear HI heq hne hself; simp_all)

set_option maxRecDepth 100000 in
set_option maxHeartbeats 4000000 in
theorem turns_42 (a0 b0 a1 b1 a2 b2 xn xd yn yd zn zd sn sd mn md ln ld un ud pn pd vn vd qn qd wn wd bn bd tn td d add mul o p q : Int) (w : World) (hR : Ready w) (HX : Hid (∀ w, Calls Tryd.prog 17 #[rt a0 b0] w fun e w' => e = .returned (rt xn xd) ∧ Below w.heap.size w w')) (HY : Hid (∀ w, Calls Tryd.prog 17 #[rt a1 b1] w fun e w' => e = .returned (rt yn yd) ∧ Below w.heap.size w w')) (HZ : Hid (∀ w, Calls Tryd.prog 17 #[rt a2 b2] w fun e w' => e = .returned (rt zn zd) ∧ Below w.heap.size w w')) (S1 : Hid (binN (Rat.right xn xd && Rat.right yn yd) (xn * yd + yn * xd) (xd * yd) = sn ∧ binD (Rat.right xn xd && Rat.right yn yd) (xn * yd + yn * xd) (xd * yd) = sd ∧ binE (Rat.right xn xd && Rat.right yn yd) (xn * yd + yn * xd) (xd * yd) = 0)) (S2 : Hid (binN (Rat.right yn yd && Rat.right xn xd) (yn * xd + xn * yd) (yd * xd) = sn ∧ binD (Rat.right yn yd && Rat.right xn xd) (yn * xd + xn * yd) (yd * xd) = sd ∧ binE (Rat.right yn yd && Rat.right xn xd) (yn * xd + xn * yd) (yd * xd) = 0)) (M1 : Hid (binN (Rat.right xn xd && Rat.right yn yd) (xn * yn) (xd * yd) = mn ∧ binD (Rat.right xn xd && Rat.right yn yd) (xn * yn) (xd * yd) = md ∧ binE (Rat.right xn xd && Rat.right yn yd) (xn * yn) (xd * yd) = 0)) (M2 : Hid (binN (Rat.right yn yd && Rat.right xn xd) (yn * xn) (yd * xd) = mn ∧ binD (Rat.right yn yd && Rat.right xn xd) (yn * xn) (yd * xd) = md ∧ binE (Rat.right yn yd && Rat.right xn xd) (yn * xn) (yd * xd) = 0)) (A1 : Hid (binN (Rat.right sn sd && Rat.right zn zd) (sn * zd + zn * sd) (sd * zd) = ln ∧ binD (Rat.right sn sd && Rat.right zn zd) (sn * zd + zn * sd) (sd * zd) = ld ∧ binE (Rat.right sn sd && Rat.right zn zd) (sn * zd + zn * sd) (sd * zd) = 0)) (A2 : Hid (binN (Rat.right yn yd && Rat.right zn zd) (yn * zd + zn * yd) (yd * zd) = un ∧ binD (Rat.right yn yd && Rat.right zn zd) (yn * zd + zn * yd) (yd * zd) = ud ∧ binE (Rat.right yn yd && Rat.right zn zd) (yn * zd + zn * yd) (yd * zd) = 0)) (A3 : Hid (binN (Rat.right xn xd && Rat.right un ud) (xn * ud + un * xd) (xd * ud) = ln ∧ binD (Rat.right xn xd && Rat.right un ud) (xn * ud + un * xd) (xd * ud) = ld ∧ binE (Rat.right xn xd && Rat.right un ud) (xn * ud + un * xd) (xd * ud) = 0)) (B1 : Hid (binN (Rat.right mn md && Rat.right zn zd) (mn * zn) (md * zd) = pn ∧ binD (Rat.right mn md && Rat.right zn zd) (mn * zn) (md * zd) = pd ∧ binE (Rat.right mn md && Rat.right zn zd) (mn * zn) (md * zd) = o)) (B2 : Hid (binN (Rat.right yn yd && Rat.right zn zd) (yn * zn) (yd * zd) = vn ∧ binD (Rat.right yn yd && Rat.right zn zd) (yn * zn) (yd * zd) = vd ∧ binE (Rat.right yn yd && Rat.right zn zd) (yn * zn) (yd * zd) = p)) (B3 : Hid (binN (Rat.right xn xd && Rat.right vn vd) (xn * vn) (xd * vd) = qn ∧ binD (Rat.right xn xd && Rat.right vn vd) (xn * vn) (xd * vd) = qd ∧ binE (Rat.right xn xd && Rat.right vn vd) (xn * vn) (xd * vd) = q)) (D1 : Hid (binN (Rat.right xn xd && Rat.right zn zd) (xn * zn) (xd * zd) = wn ∧ binD (Rat.right xn xd && Rat.right zn zd) (xn * zn) (xd * zd) = wd ∧ binE (Rat.right xn xd && Rat.right zn zd) (xn * zn) (xd * zd) = d)) (D2 : Hid (binN (Rat.right wn wd && Rat.right vn vd) (wn * vd + vn * wd) (wd * vd) = bn ∧ binD (Rat.right wn wd && Rat.right vn vd) (wn * vd + vn * wd) (wd * vd) = bd ∧ binE (Rat.right wn wd && Rat.right vn vd) (wn * vd + vn * wd) (wd * vd) = add)) (D3 : Hid (binN (Rat.right sn sd && Rat.right zn zd) (sn * zn) (sd * zd) = tn ∧ binD (Rat.right sn sd && Rat.right zn zd) (sn * zn) (sd * zd) = td ∧ binE (Rat.right sn sd && Rat.right zn zd) (sn * zn) (sd * zd) = mul)) (hb : (o == 0) = false) (HI : Hid (d = 0 → p = 0 → add = 0 → 0 = 0 → mul = 0 ∧ eqR tn td bn bd = true)) : Calls Tryd.prog 5 #[rt a0 b0, rt a1 b1, rt a2 b2] w fun e w' => e = .returned (.bool true) ∧ Below w.heap.size w w' := by
  have hgR := guardR
  have heq := eql_rt
  have hne := neq_rt
  have hself := eqR_self
  have hB0 : Below w.heap.size w w := Below.refl _ _
  go_enter Tryd.func5, Tryd.ntmps5
  go_wp2_with fail
  have hR' := hR.below ((((Below.refl _ _).alloc (Nat.le_refl _) (.cells #[.int .i64 a0, .int .i64 b0] 23)).alloc (by simp) (.cells #[.int .i64 a1, .int .i64 b1] 23)).alloc (by simp; omega) (.cells #[.int .i64 a2, .int .i64 b2] 23))
  refine (examples_any _ hR').mono ?_
  rintro e w1 ⟨rfl, hb1⟩
  have hs1 : Below w.heap.size w w1 := Below.trans (by repeat (first | exact Below.refl _ _ | refine Below.alloc ?_ (by simp <;> omega) _)) (hb1.mono (by simp <;> omega))
  have c_p0_0 : w1.cell? ⟨w.heap.size, 0, none⟩ = some (.int .i64 (a0)) := (hb1.cell (by simp <;> omega)).trans (by go_simp)
  have c_p0_1 : w1.cell? ⟨w.heap.size, 1, none⟩ = some (.int .i64 (b0)) := (hb1.cell (by simp <;> omega)).trans (by go_simp)
  have c_p1_0 : w1.cell? ⟨w.heap.size + 1, 0, none⟩ = some (.int .i64 (a1)) := (hb1.cell (by simp <;> omega)).trans (by go_simp)
  have c_p1_1 : w1.cell? ⟨w.heap.size + 1, 1, none⟩ = some (.int .i64 (b1)) := (hb1.cell (by simp <;> omega)).trans (by go_simp)
  have c_p2_0 : w1.cell? ⟨w.heap.size + 1 + 1, 0, none⟩ = some (.int .i64 (a2)) := (hb1.cell (by simp <;> omega)).trans (by go_simp)
  have c_p2_1 : w1.cell? ⟨w.heap.size + 1 + 1, 1, none⟩ = some (.int .i64 (b2)) := (hb1.cell (by simp <;> omega)).trans (by go_simp)
  have z_p0 := World.block_lt_of_cell? _ _ c_p0_0
  have z_p1 := World.block_lt_of_cell? _ _ c_p1_0
  have z_p2 := World.block_lt_of_cell? _ _ c_p2_0
  have hB1 := below_two hB0 hs1
  clear hB0 hs1 hb1
  clear hR' hR
  go_wp2_with fail
  refine (HX.out _).mono ?_
  rintro e w2 ⟨rfl, hb2⟩
  have hs2 := hb2
  clear c_p0_0
  clear c_p0_1
  replace c_p1_0 := cell_later hs2 c_p1_0
  replace c_p1_1 := cell_later hs2 c_p1_1
  replace c_p2_0 := cell_later hs2 c_p2_0
  replace c_p2_1 := cell_later hs2 c_p2_1
  clear z_p1
  have z_p1 := World.block_lt_of_cell? _ _ c_p1_0
  clear z_p2
  have z_p2 := World.block_lt_of_cell? _ _ c_p2_0
  clear z_p0
  have hB2 := below_two hB1 hs2
  clear hB1 hs2
  go_wp2_with fail
  refine (HY.out _).mono ?_
  rintro e w3 ⟨rfl, hb3⟩
  have hs3 : Below w2.heap.size w2 w3 := Below.trans (by repeat (first | exact Below.refl _ _ | refine Below.alloc ?_ (by simp <;> omega) _)) (hb3.mono (by simp <;> omega))
  clear c_p1_0
  clear c_p1_1
  replace c_p2_0 := cell_later hs3 c_p2_0
  replace c_p2_1 := cell_later hs3 c_p2_1
  have c_x_0 : w3.cell? ⟨w2.heap.size, 0, none⟩ = some (.int .i64 (xn)) := (hb3.cell (by simp <;> omega)).trans (by go_simp)
  have c_x_1 : w3.cell? ⟨w2.heap.size, 1, none⟩ = some (.int .i64 (xd)) := (hb3.cell (by simp <;> omega)).trans (by go_simp)
  clear z_p2
  have z_p2 := World.block_lt_of_cell? _ _ c_p2_0
  have z_x := World.block_lt_of_cell? _ _ c_x_0
  clear z_p1
  have hB3 := below_two hB2 hs3
  clear hB2 hs3 hb3
  go_wp2_with fail
  refine (HZ.out _).mono ?_
  rintro e w4 ⟨rfl, hb4⟩
  have hs4 : Below w3.heap.size w3 w4 := Below.trans (by repeat (first | exact Below.refl _ _ | refine Below.alloc ?_ (by simp <;> omega) _)) (hb4.mono (by simp <;> omega))
  clear c_p2_0
  clear c_p2_1
  replace c_x_0 := cell_later hs4 c_x_0
  replace c_x_1 := cell_later hs4 c_x_1
  have c_y_0 : w4.cell? ⟨w3.heap.size, 0, none⟩ = some (.int .i64 (yn)) := (hb4.cell (by simp <;> omega)).trans (by go_simp)
  have c_y_1 : w4.cell? ⟨w3.heap.size, 1, none⟩ = some (.int .i64 (yd)) := (hb4.cell (by simp <;> omega)).trans (by go_simp)
  clear z_x
  have z_x := World.block_lt_of_cell? _ _ c_x_0
  have z_y := World.block_lt_of_cell? _ _ c_y_0
  clear z_p2
  have hB4 := below_two hB3 hs4
  clear hB3 hs4 hb4
  go_wp2_with fail
  refine (add_any _ _ _ _ _).mono ?_
  rintro e w5 ⟨rfl, hb5⟩
  have hs5 : Below w4.heap.size w4 w5 := Below.trans (by repeat (first | exact Below.refl _ _ | refine Below.alloc ?_ (by simp <;> omega) _)) (hb5.mono (by simp <;> omega))
  replace c_x_0 := cell_later hs5 c_x_0
  replace c_x_1 := cell_later hs5 c_x_1
  replace c_y_0 := cell_later hs5 c_y_0
  replace c_y_1 := cell_later hs5 c_y_1
  have c_z_0 : w5.cell? ⟨w4.heap.size, 0, none⟩ = some (.int .i64 (zn)) := (hb5.cell (by simp <;> omega)).trans (by go_simp)
  have c_z_1 : w5.cell? ⟨w4.heap.size, 1, none⟩ = some (.int .i64 (zd)) := (hb5.cell (by simp <;> omega)).trans (by go_simp)
  clear z_x
  have z_x := World.block_lt_of_cell? _ _ c_x_0
  clear z_y
  have z_y := World.block_lt_of_cell? _ _ c_y_0
  have z_z := World.block_lt_of_cell? _ _ c_z_0
  have hB5 := below_two hB4 hs5
  clear hB4 hs5 hb5
  rw [S1.out.1, S1.out.2.1, S1.out.2.2]
  go_wp2_with fail
  refine (add_any _ _ _ _ _).mono ?_
  rintro e w6 ⟨rfl, hb6⟩
  have hs6 : Below w5.heap.size w5 w6 := Below.trans (by repeat (first | exact Below.refl _ _ | refine Below.alloc ?_ (by simp <;> omega) _)) (hb6.mono (by simp <;> omega))
  replace c_x_0 := cell_later hs6 c_x_0
  replace c_x_1 := cell_later hs6 c_x_1
  replace c_y_0 := cell_later hs6 c_y_0
  replace c_y_1 := cell_later hs6 c_y_1
  replace c_z_0 := cell_later hs6 c_z_0
  replace c_z_1 := cell_later hs6 c_z_1
  have c_s_0 : w6.cell? ⟨w5.heap.size, 0, none⟩ = some (.int .i64 (sn)) := (hb6.cell (by simp <;> omega)).trans (by go_simp)
  have c_s_1 : w6.cell? ⟨w5.heap.size, 1, none⟩ = some (.int .i64 (sd)) := (hb6.cell (by simp <;> omega)).trans (by go_simp)
  have z_s := World.block_lt_of_cell? _ _ c_s_0
  clear z_x
  have z_x := World.block_lt_of_cell? _ _ c_x_0
  clear z_y
  have z_y := World.block_lt_of_cell? _ _ c_y_0
  clear z_z
  have z_z := World.block_lt_of_cell? _ _ c_z_0
  have hB6 := below_two hB5 hs6
  clear hB5 hs6 hb6
  rw [S2.out.1, S2.out.2.1, S2.out.2.2]
  go_wp2_with fail
  refine (mul_any _ _ _ _ _).mono ?_
  rintro e w7 ⟨rfl, hb7⟩
  have hs7 : Below w6.heap.size w6 w7 := Below.trans (by repeat (first | exact Below.refl _ _ | refine Below.alloc ?_ (by simp <;> omega) _)) (hb7.mono (by simp <;> omega))
  replace c_x_0 := cell_later hs7 c_x_0
  replace c_x_1 := cell_later hs7 c_x_1
  replace c_y_0 := cell_later hs7 c_y_0
  replace c_y_1 := cell_later hs7 c_y_1
  replace c_z_0 := cell_later hs7 c_z_0
  replace c_z_1 := cell_later hs7 c_z_1
  replace c_s_0 := cell_later hs7 c_s_0
  replace c_s_1 := cell_later hs7 c_s_1
  have c_t_0 : w7.cell? ⟨w6.heap.size, 0, none⟩ = some (.int .i64 (sn)) := (hb7.cell (by simp <;> omega)).trans (by go_simp)
  have c_t_1 : w7.cell? ⟨w6.heap.size, 1, none⟩ = some (.int .i64 (sd)) := (hb7.cell (by simp <;> omega)).trans (by go_simp)
  clear z_s
  have z_s := World.block_lt_of_cell? _ _ c_s_0
  have z_t := World.block_lt_of_cell? _ _ c_t_0
  clear z_x
  have z_x := World.block_lt_of_cell? _ _ c_x_0
  clear z_y
  have z_y := World.block_lt_of_cell? _ _ c_y_0
  clear z_z
  have z_z := World.block_lt_of_cell? _ _ c_z_0
  have hB7 := below_two hB6 hs7
  clear hB6 hs7 hb7
  rw [M1.out.1, M1.out.2.1, M1.out.2.2]
  go_wp2_with fail
  refine (mul_any _ _ _ _ _).mono ?_
  rintro e w8 ⟨rfl, hb8⟩
  have hs8 : Below w7.heap.size w7 w8 := Below.trans (by repeat (first | exact Below.refl _ _ | refine Below.alloc ?_ (by simp <;> omega) _)) (hb8.mono (by simp <;> omega))
  replace c_x_0 := cell_later hs8 c_x_0
  replace c_x_1 := cell_later hs8 c_x_1
  replace c_y_0 := cell_later hs8 c_y_0
  replace c_y_1 := cell_later hs8 c_y_1
  replace c_z_0 := cell_later hs8 c_z_0
  replace c_z_1 := cell_later hs8 c_z_1
  replace c_s_0 := cell_later hs8 c_s_0
  replace c_s_1 := cell_later hs8 c_s_1
  replace c_t_0 := cell_later hs8 c_t_0
  replace c_t_1 := cell_later hs8 c_t_1
  have c_m_0 : w8.cell? ⟨w7.heap.size, 0, none⟩ = some (.int .i64 (mn)) := (hb8.cell (by simp <;> omega)).trans (by go_simp)
  have c_m_1 : w8.cell? ⟨w7.heap.size, 1, none⟩ = some (.int .i64 (md)) := (hb8.cell (by simp <;> omega)).trans (by go_simp)
  have z_m := World.block_lt_of_cell? _ _ c_m_0
  clear z_s
  have z_s := World.block_lt_of_cell? _ _ c_s_0
  clear z_t
  have z_t := World.block_lt_of_cell? _ _ c_t_0
  clear z_x
  have z_x := World.block_lt_of_cell? _ _ c_x_0
  clear z_y
  have z_y := World.block_lt_of_cell? _ _ c_y_0
  clear z_z
  have z_z := World.block_lt_of_cell? _ _ c_z_0
  have hB8 := below_two hB7 hs8
  clear hB7 hs8 hb8
  rw [M2.out.1, M2.out.2.1, M2.out.2.2]
  go_wp2_with fail
  refine (add_any _ _ _ _ _).mono ?_
  rintro e w9 ⟨rfl, hb9⟩
  have hs9 : Below w8.heap.size w8 w9 := Below.trans (by repeat (first | exact Below.refl _ _ | refine Below.alloc ?_ (by simp <;> omega) _)) (hb9.mono (by simp <;> omega))
  clear c_t_0
  clear c_t_1
  replace c_x_0 := cell_later hs9 c_x_0
  replace c_x_1 := cell_later hs9 c_x_1
  replace c_y_0 := cell_later hs9 c_y_0
  replace c_y_1 := cell_later hs9 c_y_1
  replace c_z_0 := cell_later hs9 c_z_0
  replace c_z_1 := cell_later hs9 c_z_1
  replace c_s_0 := cell_later hs9 c_s_0
  replace c_s_1 := cell_later hs9 c_s_1
  replace c_m_0 := cell_later hs9 c_m_0
  replace c_m_1 := cell_later hs9 c_m_1
  clear z_m
  have z_m := World.block_lt_of_cell? _ _ c_m_0
  clear z_s
  have z_s := World.block_lt_of_cell? _ _ c_s_0
  clear z_x
  have z_x := World.block_lt_of_cell? _ _ c_x_0
  clear z_y
  have z_y := World.block_lt_of_cell? _ _ c_y_0
  clear z_z
  have z_z := World.block_lt_of_cell? _ _ c_z_0
  clear z_t
  have hB9 := below_two hB8 hs9
  clear hB8 hs9 hb9
  rw [A1.out.1, A1.out.2.1, A1.out.2.2]
  go_wp2_with fail
  refine (add_any _ _ _ _ _).mono ?_
  rintro e w10 ⟨rfl, hb10⟩
  have hs10 : Below w9.heap.size w9 w10 := Below.trans (by repeat (first | exact Below.refl _ _ | refine Below.alloc ?_ (by simp <;> omega) _)) (hb10.mono (by simp <;> omega))
  replace c_x_0 := cell_later hs10 c_x_0
  replace c_x_1 := cell_later hs10 c_x_1
  replace c_y_0 := cell_later hs10 c_y_0
  replace c_y_1 := cell_later hs10 c_y_1
  replace c_z_0 := cell_later hs10 c_z_0
  replace c_z_1 := cell_later hs10 c_z_1
  replace c_s_0 := cell_later hs10 c_s_0
  replace c_s_1 := cell_later hs10 c_s_1
  replace c_m_0 := cell_later hs10 c_m_0
  replace c_m_1 := cell_later hs10 c_m_1
  have c_l_0 : w10.cell? ⟨w9.heap.size, 0, none⟩ = some (.int .i64 (ln)) := (hb10.cell (by simp <;> omega)).trans (by go_simp)
  have c_l_1 : w10.cell? ⟨w9.heap.size, 1, none⟩ = some (.int .i64 (ld)) := (hb10.cell (by simp <;> omega)).trans (by go_simp)
  have z_l := World.block_lt_of_cell? _ _ c_l_0
  clear z_m
  have z_m := World.block_lt_of_cell? _ _ c_m_0
  clear z_s
  have z_s := World.block_lt_of_cell? _ _ c_s_0
  clear z_x
  have z_x := World.block_lt_of_cell? _ _ c_x_0
  clear z_y
  have z_y := World.block_lt_of_cell? _ _ c_y_0
  clear z_z
  have z_z := World.block_lt_of_cell? _ _ c_z_0
  have hB10 := below_two hB9 hs10
  clear hB9 hs10 hb10
  rw [A2.out.1, A2.out.2.1, A2.out.2.2]
  go_wp2_with fail
  refine (add_any _ _ _ _ _).mono ?_
  rintro e w11 ⟨rfl, hb11⟩
  have hs11 : Below w10.heap.size w10 w11 := Below.trans (by repeat (first | exact Below.refl _ _ | refine Below.alloc ?_ (by simp <;> omega) _)) (hb11.mono (by simp <;> omega))
  replace c_x_0 := cell_later hs11 c_x_0
  replace c_x_1 := cell_later hs11 c_x_1
  replace c_y_0 := cell_later hs11 c_y_0
  replace c_y_1 := cell_later hs11 c_y_1
  replace c_z_0 := cell_later hs11 c_z_0
  replace c_z_1 := cell_later hs11 c_z_1
  replace c_s_0 := cell_later hs11 c_s_0
  replace c_s_1 := cell_later hs11 c_s_1
  replace c_m_0 := cell_later hs11 c_m_0
  replace c_m_1 := cell_later hs11 c_m_1
  replace c_l_0 := cell_later hs11 c_l_0
  replace c_l_1 := cell_later hs11 c_l_1
  have c_u_0 : w11.cell? ⟨w10.heap.size, 0, none⟩ = some (.int .i64 (un)) := (hb11.cell (by simp <;> omega)).trans (by go_simp)
  have c_u_1 : w11.cell? ⟨w10.heap.size, 1, none⟩ = some (.int .i64 (ud)) := (hb11.cell (by simp <;> omega)).trans (by go_simp)
  clear z_l
  have z_l := World.block_lt_of_cell? _ _ c_l_0
  clear z_m
  have z_m := World.block_lt_of_cell? _ _ c_m_0
  clear z_s
  have z_s := World.block_lt_of_cell? _ _ c_s_0
  have z_u := World.block_lt_of_cell? _ _ c_u_0
  clear z_x
  have z_x := World.block_lt_of_cell? _ _ c_x_0
  clear z_y
  have z_y := World.block_lt_of_cell? _ _ c_y_0
  clear z_z
  have z_z := World.block_lt_of_cell? _ _ c_z_0
  have hB11 := below_two hB10 hs11
  clear hB10 hs11 hb11
  rw [A3.out.1, A3.out.2.1, A3.out.2.2]
  go_wp2_with fail
  refine (mul_any _ _ _ _ _).mono ?_
  rintro e w12 ⟨rfl, hb12⟩
  have hs12 : Below w11.heap.size w11 w12 := Below.trans (by repeat (first | exact Below.refl _ _ | refine Below.alloc ?_ (by simp <;> omega) _)) (hb12.mono (by simp <;> omega))
  clear c_l_0
  clear c_l_1
  clear c_u_0
  clear c_u_1
  replace c_x_0 := cell_later hs12 c_x_0
  replace c_x_1 := cell_later hs12 c_x_1
  replace c_y_0 := cell_later hs12 c_y_0
  replace c_y_1 := cell_later hs12 c_y_1
  replace c_z_0 := cell_later hs12 c_z_0
  replace c_z_1 := cell_later hs12 c_z_1
  replace c_s_0 := cell_later hs12 c_s_0
  replace c_s_1 := cell_later hs12 c_s_1
  replace c_m_0 := cell_later hs12 c_m_0
  replace c_m_1 := cell_later hs12 c_m_1
  clear z_m
  have z_m := World.block_lt_of_cell? _ _ c_m_0
  clear z_s
  have z_s := World.block_lt_of_cell? _ _ c_s_0
  clear z_x
  have z_x := World.block_lt_of_cell? _ _ c_x_0
  clear z_y
  have z_y := World.block_lt_of_cell? _ _ c_y_0
  clear z_z
  have z_z := World.block_lt_of_cell? _ _ c_z_0
  clear z_l
  clear z_u
  have hB12 := below_two hB11 hs12
  clear hB11 hs12 hb12
  rw [B1.out.1, B1.out.2.1, B1.out.2.2]
  go_wp2_with fail
  refine (mul_any _ _ _ _ _).mono ?_
  rintro e w13 ⟨rfl, hb13⟩
  have hs13 : Below w12.heap.size w12 w13 := Below.trans (by repeat (first | exact Below.refl _ _ | refine Below.alloc ?_ (by simp <;> omega) _)) (hb13.mono (by simp <;> omega))
  replace c_x_0 := cell_later hs13 c_x_0
  replace c_x_1 := cell_later hs13 c_x_1
  replace c_y_0 := cell_later hs13 c_y_0
  replace c_y_1 := cell_later hs13 c_y_1
  replace c_z_0 := cell_later hs13 c_z_0
  replace c_z_1 := cell_later hs13 c_z_1
  replace c_s_0 := cell_later hs13 c_s_0
  replace c_s_1 := cell_later hs13 c_s_1
  replace c_m_0 := cell_later hs13 c_m_0
  replace c_m_1 := cell_later hs13 c_m_1
  have c_p_0 : w13.cell? ⟨w12.heap.size, 0, none⟩ = some (.int .i64 (pn)) := (hb13.cell (by simp <;> omega)).trans (by go_simp)
  have c_p_1 : w13.cell? ⟨w12.heap.size, 1, none⟩ = some (.int .i64 (pd)) := (hb13.cell (by simp <;> omega)).trans (by go_simp)
  clear z_m
  have z_m := World.block_lt_of_cell? _ _ c_m_0
  have z_p := World.block_lt_of_cell? _ _ c_p_0
  clear z_s
  have z_s := World.block_lt_of_cell? _ _ c_s_0
  clear z_x
  have z_x := World.block_lt_of_cell? _ _ c_x_0
  clear z_y
  have z_y := World.block_lt_of_cell? _ _ c_y_0
  clear z_z
  have z_z := World.block_lt_of_cell? _ _ c_z_0
  have hB13 := below_two hB12 hs13
  clear hB12 hs13 hb13
  rw [B2.out.1, B2.out.2.1, B2.out.2.2]
  go_wp2_with fail
  refine (mul_any _ _ _ _ _).mono ?_
  rintro e w14 ⟨rfl, hb14⟩
  have hs14 : Below w13.heap.size w13 w14 := Below.trans (by repeat (first | exact Below.refl _ _ | refine Below.alloc ?_ (by simp <;> omega) _)) (hb14.mono (by simp <;> omega))
  replace c_x_0 := cell_later hs14 c_x_0
  replace c_x_1 := cell_later hs14 c_x_1
  replace c_y_0 := cell_later hs14 c_y_0
  replace c_y_1 := cell_later hs14 c_y_1
  replace c_z_0 := cell_later hs14 c_z_0
  replace c_z_1 := cell_later hs14 c_z_1
  replace c_s_0 := cell_later hs14 c_s_0
  replace c_s_1 := cell_later hs14 c_s_1
  replace c_m_0 := cell_later hs14 c_m_0
  replace c_m_1 := cell_later hs14 c_m_1
  replace c_p_0 := cell_later hs14 c_p_0
  replace c_p_1 := cell_later hs14 c_p_1
  have c_v_0 : w14.cell? ⟨w13.heap.size, 0, none⟩ = some (.int .i64 (vn)) := (hb14.cell (by simp <;> omega)).trans (by go_simp)
  have c_v_1 : w14.cell? ⟨w13.heap.size, 1, none⟩ = some (.int .i64 (vd)) := (hb14.cell (by simp <;> omega)).trans (by go_simp)
  clear z_m
  have z_m := World.block_lt_of_cell? _ _ c_m_0
  clear z_p
  have z_p := World.block_lt_of_cell? _ _ c_p_0
  clear z_s
  have z_s := World.block_lt_of_cell? _ _ c_s_0
  have z_v := World.block_lt_of_cell? _ _ c_v_0
  clear z_x
  have z_x := World.block_lt_of_cell? _ _ c_x_0
  clear z_y
  have z_y := World.block_lt_of_cell? _ _ c_y_0
  clear z_z
  have z_z := World.block_lt_of_cell? _ _ c_z_0
  have hB14 := below_two hB13 hs14
  clear hB13 hs14 hb14
  rw [B3.out.1, B3.out.2.1, B3.out.2.2]
  go_wp2_with fail
  refine (mul_any _ _ _ _ _).mono ?_
  rintro e w15 ⟨rfl, hb15⟩
  have hs15 : Below w14.heap.size w14 w15 := Below.trans (by repeat (first | exact Below.refl _ _ | refine Below.alloc ?_ (by simp <;> omega) _)) (hb15.mono (by simp <;> omega))
  clear c_p_0
  clear c_p_1
  replace c_x_0 := cell_later hs15 c_x_0
  replace c_x_1 := cell_later hs15 c_x_1
  replace c_y_0 := cell_later hs15 c_y_0
  replace c_y_1 := cell_later hs15 c_y_1
  replace c_z_0 := cell_later hs15 c_z_0
  replace c_z_1 := cell_later hs15 c_z_1
  replace c_s_0 := cell_later hs15 c_s_0
  replace c_s_1 := cell_later hs15 c_s_1
  replace c_m_0 := cell_later hs15 c_m_0
  replace c_m_1 := cell_later hs15 c_m_1
  replace c_v_0 := cell_later hs15 c_v_0
  replace c_v_1 := cell_later hs15 c_v_1
  clear z_m
  have z_m := World.block_lt_of_cell? _ _ c_m_0
  clear z_s
  have z_s := World.block_lt_of_cell? _ _ c_s_0
  clear z_v
  have z_v := World.block_lt_of_cell? _ _ c_v_0
  clear z_x
  have z_x := World.block_lt_of_cell? _ _ c_x_0
  clear z_y
  have z_y := World.block_lt_of_cell? _ _ c_y_0
  clear z_z
  have z_z := World.block_lt_of_cell? _ _ c_z_0
  clear z_p
  have hB15 := below_two hB14 hs15
  clear hB14 hs15 hb15
  rw [D1.out.1, D1.out.2.1, D1.out.2.2]
  go_wp2_with fail
  refine (add_any _ _ _ _ _).mono ?_
  rintro e w16 ⟨rfl, hb16⟩
  have hs16 : Below w15.heap.size w15 w16 := Below.trans (by repeat (first | exact Below.refl _ _ | refine Below.alloc ?_ (by simp <;> omega) _)) (hb16.mono (by simp <;> omega))
  clear c_x_0
  clear c_x_1
  clear c_y_0
  clear c_y_1
  clear c_m_0
  clear c_m_1
  replace c_z_0 := cell_later hs16 c_z_0
  replace c_z_1 := cell_later hs16 c_z_1
  replace c_s_0 := cell_later hs16 c_s_0
  replace c_s_1 := cell_later hs16 c_s_1
  replace c_v_0 := cell_later hs16 c_v_0
  replace c_v_1 := cell_later hs16 c_v_1
  have c_w0_0 : w16.cell? ⟨w15.heap.size, 0, none⟩ = some (.int .i64 (wn)) := (hb16.cell (by simp <;> omega)).trans (by go_simp)
  have c_w0_1 : w16.cell? ⟨w15.heap.size, 1, none⟩ = some (.int .i64 (wd)) := (hb16.cell (by simp <;> omega)).trans (by go_simp)
  clear z_s
  have z_s := World.block_lt_of_cell? _ _ c_s_0
  clear z_v
  have z_v := World.block_lt_of_cell? _ _ c_v_0
  have z_w0 := World.block_lt_of_cell? _ _ c_w0_0
  clear z_z
  have z_z := World.block_lt_of_cell? _ _ c_z_0
  clear z_m
  clear z_x
  clear z_y
  have hB16 := below_two hB15 hs16
  clear hB15 hs16 hb16
  rw [D2.out.1, D2.out.2.1, D2.out.2.2]
  go_wp2_with fail
  refine (mul_any _ _ _ _ _).mono ?_
  rintro e w17 ⟨rfl, hb17⟩
  have hs17 : Below w16.heap.size w16 w17 := Below.trans (by repeat (first | exact Below.refl _ _ | refine Below.alloc ?_ (by simp <;> omega) _)) (hb17.mono (by simp <;> omega))
  clear c_v_0
  clear c_v_1
  clear c_w0_0
  clear c_w0_1
  replace c_z_0 := cell_later hs17 c_z_0
  replace c_z_1 := cell_later hs17 c_z_1
  replace c_s_0 := cell_later hs17 c_s_0
  replace c_s_1 := cell_later hs17 c_s_1
  have c_b_0 : w17.cell? ⟨w16.heap.size, 0, none⟩ = some (.int .i64 (bn)) := (hb17.cell (by simp <;> omega)).trans (by go_simp)
  have c_b_1 : w17.cell? ⟨w16.heap.size, 1, none⟩ = some (.int .i64 (bd)) := (hb17.cell (by simp <;> omega)).trans (by go_simp)
  have z_b := World.block_lt_of_cell? _ _ c_b_0
  clear z_s
  have z_s := World.block_lt_of_cell? _ _ c_s_0
  clear z_z
  have z_z := World.block_lt_of_cell? _ _ c_z_0
  clear z_v
  clear z_w0
  have hB17 := below_two hB16 hs17
  clear hB16 hs17 hb17
  rw [D3.out.1, D3.out.2.1, D3.out.2.2]
  clear HX HY HZ S1 S2 M1 M2 A1 A2 A3 B1 B2 B3 D1 D2 D3
  go_wp2
  all_goals first
    | (go_ret; exact ⟨rfl, (hB17.alloc hB17.size _)⟩)
    | (have i1 := HI.out; clear HI heq hne hself; go_ret; refine ⟨ret_bool ?_, (hB17.alloc hB17.size _)⟩; simp_all; done)
    | (exfalso; have i1 := HI.out; clear HI heq hne hself; simp_all)

set_option maxRecDepth 100000 in
set_option maxHeartbeats 4000000 in
theorem turns_43 (a0 b0 a1 b1 a2 b2 xn xd yn yd zn zd sn sd mn md ln ld un ud pn pd vn vd qn qd wn wd bn bd tn td d add mul p q : Int) (w : World) (hR : Ready w) (HX : Hid (∀ w, Calls Tryd.prog 17 #[rt a0 b0] w fun e w' => e = .returned (rt xn xd) ∧ Below w.heap.size w w')) (HY : Hid (∀ w, Calls Tryd.prog 17 #[rt a1 b1] w fun e w' => e = .returned (rt yn yd) ∧ Below w.heap.size w w')) (HZ : Hid (∀ w, Calls Tryd.prog 17 #[rt a2 b2] w fun e w' => e = .returned (rt zn zd) ∧ Below w.heap.size w w')) (S1 : Hid (binN (Rat.right xn xd && Rat.right yn yd) (xn * yd + yn * xd) (xd * yd) = sn ∧ binD (Rat.right xn xd && Rat.right yn yd) (xn * yd + yn * xd) (xd * yd) = sd ∧ binE (Rat.right xn xd && Rat.right yn yd) (xn * yd + yn * xd) (xd * yd) = 0)) (S2 : Hid (binN (Rat.right yn yd && Rat.right xn xd) (yn * xd + xn * yd) (yd * xd) = sn ∧ binD (Rat.right yn yd && Rat.right xn xd) (yn * xd + xn * yd) (yd * xd) = sd ∧ binE (Rat.right yn yd && Rat.right xn xd) (yn * xd + xn * yd) (yd * xd) = 0)) (M1 : Hid (binN (Rat.right xn xd && Rat.right yn yd) (xn * yn) (xd * yd) = mn ∧ binD (Rat.right xn xd && Rat.right yn yd) (xn * yn) (xd * yd) = md ∧ binE (Rat.right xn xd && Rat.right yn yd) (xn * yn) (xd * yd) = 0)) (M2 : Hid (binN (Rat.right yn yd && Rat.right xn xd) (yn * xn) (yd * xd) = mn ∧ binD (Rat.right yn yd && Rat.right xn xd) (yn * xn) (yd * xd) = md ∧ binE (Rat.right yn yd && Rat.right xn xd) (yn * xn) (yd * xd) = 0)) (A1 : Hid (binN (Rat.right sn sd && Rat.right zn zd) (sn * zd + zn * sd) (sd * zd) = ln ∧ binD (Rat.right sn sd && Rat.right zn zd) (sn * zd + zn * sd) (sd * zd) = ld ∧ binE (Rat.right sn sd && Rat.right zn zd) (sn * zd + zn * sd) (sd * zd) = 0)) (A2 : Hid (binN (Rat.right yn yd && Rat.right zn zd) (yn * zd + zn * yd) (yd * zd) = un ∧ binD (Rat.right yn yd && Rat.right zn zd) (yn * zd + zn * yd) (yd * zd) = ud ∧ binE (Rat.right yn yd && Rat.right zn zd) (yn * zd + zn * yd) (yd * zd) = 0)) (A3 : Hid (binN (Rat.right xn xd && Rat.right un ud) (xn * ud + un * xd) (xd * ud) = ln ∧ binD (Rat.right xn xd && Rat.right un ud) (xn * ud + un * xd) (xd * ud) = ld ∧ binE (Rat.right xn xd && Rat.right un ud) (xn * ud + un * xd) (xd * ud) = 0)) (B1 : Hid (binN (Rat.right mn md && Rat.right zn zd) (mn * zn) (md * zd) = pn ∧ binD (Rat.right mn md && Rat.right zn zd) (mn * zn) (md * zd) = pd ∧ binE (Rat.right mn md && Rat.right zn zd) (mn * zn) (md * zd) = 0)) (B2 : Hid (binN (Rat.right yn yd && Rat.right zn zd) (yn * zn) (yd * zd) = vn ∧ binD (Rat.right yn yd && Rat.right zn zd) (yn * zn) (yd * zd) = vd ∧ binE (Rat.right yn yd && Rat.right zn zd) (yn * zn) (yd * zd) = p)) (B3 : Hid (binN (Rat.right xn xd && Rat.right vn vd) (xn * vn) (xd * vd) = qn ∧ binD (Rat.right xn xd && Rat.right vn vd) (xn * vn) (xd * vd) = qd ∧ binE (Rat.right xn xd && Rat.right vn vd) (xn * vn) (xd * vd) = q)) (D1 : Hid (binN (Rat.right xn xd && Rat.right zn zd) (xn * zn) (xd * zd) = wn ∧ binD (Rat.right xn xd && Rat.right zn zd) (xn * zn) (xd * zd) = wd ∧ binE (Rat.right xn xd && Rat.right zn zd) (xn * zn) (xd * zd) = d)) (D2 : Hid (binN (Rat.right wn wd && Rat.right vn vd) (wn * vd + vn * wd) (wd * vd) = bn ∧ binD (Rat.right wn wd && Rat.right vn vd) (wn * vd + vn * wd) (wd * vd) = bd ∧ binE (Rat.right wn wd && Rat.right vn vd) (wn * vd + vn * wd) (wd * vd) = add)) (D3 : Hid (binN (Rat.right sn sd && Rat.right zn zd) (sn * zn) (sd * zd) = tn ∧ binD (Rat.right sn sd && Rat.right zn zd) (sn * zn) (sd * zd) = td ∧ binE (Rat.right sn sd && Rat.right zn zd) (sn * zn) (sd * zd) = mul)) (hb : (p == 0) = false) (HI : Hid (d = 0 → p = 0 → add = 0 → 0 = 0 → mul = 0 ∧ eqR tn td bn bd = true)) : Calls Tryd.prog 5 #[rt a0 b0, rt a1 b1, rt a2 b2] w fun e w' => e = .returned (.bool true) ∧ Below w.heap.size w w' := by
  have hgR := guardR
  have heq := eql_rt
  have hne := neq_rt
  have hself := eqR_self
  have hB0 : Below w.heap.size w w := Below.refl _ _
  go_enter Tryd.func5, Tryd.ntmps5
  go_wp2_with fail
  have hR' := hR.below ((((Below.refl _ _).alloc (Nat.le_refl _) (.cells #[.int .i64 a0, .int .i64 b0] 23)).alloc (by simp) (.cells #[.int .i64 a1, .int .i64 b1] 23)).alloc (by simp; omega) (.cells #[.int .i64 a2, .int .i64 b2] 23))
  refine (examples_any _ hR').mono ?_
  rintro e w1 ⟨rfl, hb1⟩
  have hs1 : Below w.heap.size w w1 := Below.trans (by repeat (first | exact Below.refl _ _ | refine Below.alloc ?_ (by simp <;> omega) _)) (hb1.mono (by simp <;> omega))
  have c_p0_0 : w1.cell? ⟨w.heap.size, 0, none⟩ = some (.int .i64 (a0)) := (hb1.cell (by simp <;> omega)).trans (by go_simp)
  have c_p0_1 : w1.cell? ⟨w.heap.size, 1, none⟩ = some (.int .i64 (b0)) := (hb1.cell (by simp <;> omega)).trans (by go_simp)
  have c_p1_0 : w1.cell? ⟨w.heap.size + 1, 0, none⟩ = some (.int .i64 (a1)) := (hb1.cell (by simp <;> omega)).trans (by go_simp)
  have c_p1_1 : w1.cell? ⟨w.heap.size + 1, 1, none⟩ = some (.int .i64 (b1)) := (hb1.cell (by simp <;> omega)).trans (by go_simp)
  have c_p2_0 : w1.cell? ⟨w.heap.size + 1 + 1, 0, none⟩ = some (.int .i64 (a2)) := (hb1.cell (by simp <;> omega)).trans (by go_simp)
  have c_p2_1 : w1.cell? ⟨w.heap.size + 1 + 1, 1, none⟩ = some (.int .i64 (b2)) := (hb1.cell (by simp <;> omega)).trans (by go_simp)
  have z_p0 := World.block_lt_of_cell? _ _ c_p0_0
  have z_p1 := World.block_lt_of_cell? _ _ c_p1_0
  have z_p2 := World.block_lt_of_cell? _ _ c_p2_0
  have hB1 := below_two hB0 hs1
  clear hB0 hs1 hb1
  clear hR' hR
  go_wp2_with fail
  refine (HX.out _).mono ?_
  rintro e w2 ⟨rfl, hb2⟩
  have hs2 := hb2
  clear c_p0_0
  clear c_p0_1
  replace c_p1_0 := cell_later hs2 c_p1_0
  replace c_p1_1 := cell_later hs2 c_p1_1
  replace c_p2_0 := cell_later hs2 c_p2_0
  replace c_p2_1 := cell_later hs2 c_p2_1
  clear z_p1
  have z_p1 := World.block_lt_of_cell? _ _ c_p1_0
  clear z_p2
  have z_p2 := World.block_lt_of_cell? _ _ c_p2_0
  clear z_p0
  have hB2 := below_two hB1 hs2
  clear hB1 hs2
  go_wp2_with fail
  refine (HY.out _).mono ?_
  rintro e w3 ⟨rfl, hb3⟩
  have hs3 : Below w2.heap.size w2 w3 := Below.trans (by repeat (first | exact Below.refl _ _ | refine Below.alloc ?_ (by simp <;> omega) _)) (hb3.mono (by simp <;> omega))
  clear c_p1_0
  clear c_p1_1
  replace c_p2_0 := cell_later hs3 c_p2_0
  replace c_p2_1 := cell_later hs3 c_p2_1
  have c_x_0 : w3.cell? ⟨w2.heap.size, 0, none⟩ = some (.int .i64 (xn)) := (hb3.cell (by simp <;> omega)).trans (by go_simp)
  have c_x_1 : w3.cell? ⟨w2.heap.size, 1, none⟩ = some (.int .i64 (xd)) := (hb3.cell (by simp <;> omega)).trans (by go_simp)
  clear z_p2
  have z_p2 := World.block_lt_of_cell? _ _ c_p2_0
  have z_x := World.block_lt_of_cell? _ _ c_x_0
  clear z_p1
  have hB3 := below_two hB2 hs3
  clear hB2 hs3 hb3
  go_wp2_with fail
  refine (HZ.out _).mono ?_
  rintro e w4 ⟨rfl, hb4⟩
  have hs4 : Below w3.heap.size w3 w4 := Below.trans (by repeat (first | exact Below.refl _ _ | refine Below.alloc ?_ (by simp <;> omega) _)) (hb4.mono (by simp <;> omega))
  clear c_p2_0
  clear c_p2_1
  replace c_x_0 := cell_later hs4 c_x_0
  replace c_x_1 := cell_later hs4 c_x_1
  have c_y_0 : w4.cell? ⟨w3.heap.size, 0, none⟩ = some (.int .i64 (yn)) := (hb4.cell (by simp <;> omega)).trans (by go_simp)
  have c_y_1 : w4.cell? ⟨w3.heap.size, 1, none⟩ = some (.int .i64 (yd)) := (hb4.cell (by simp <;> omega)).trans (by go_simp)
  clear z_x
  have z_x := World.block_lt_of_cell? _ _ c_x_0
  have z_y := World.block_lt_of_cell? _ _ c_y_0
  clear z_p2
  have hB4 := below_two hB3 hs4
  clear hB3 hs4 hb4
  go_wp2_with fail
  refine (add_any _ _ _ _ _).mono ?_
  rintro e w5 ⟨rfl, hb5⟩
  have hs5 : Below w4.heap.size w4 w5 := Below.trans (by repeat (first | exact Below.refl _ _ | refine Below.alloc ?_ (by simp <;> omega) _)) (hb5.mono (by simp <;> omega))
  replace c_x_0 := cell_later hs5 c_x_0
  replace c_x_1 := cell_later hs5 c_x_1
  replace c_y_0 := cell_later hs5 c_y_0
  replace c_y_1 := cell_later hs5 c_y_1
  have c_z_0 : w5.cell? ⟨w4.heap.size, 0, none⟩ = some (.int .i64 (zn)) := (hb5.cell (by simp <;> omega)).trans (by go_simp)
  have c_z_1 : w5.cell? ⟨w4.heap.size, 1, none⟩ = some (.int .i64 (zd)) := (hb5.cell (by simp <;> omega)).trans (by go_simp)
  clear z_x
  have z_x := World.block_lt_of_cell? _ _ c_x_0
  clear z_y
  have z_y := World.block_lt_of_cell? _ _ c_y_0
  have z_z := World.block_lt_of_cell? _ _ c_z_0
  have hB5 := below_two hB4 hs5
  clear hB4 hs5 hb5
  rw [S1.out.1, S1.out.2.1, S1.out.2.2]
  go_wp2_with fail
  refine (add_any _ _ _ _ _).mono ?_
  rintro e w6 ⟨rfl, hb6⟩
  have hs6 : Below w5.heap.size w5 w6 := Below.trans (by repeat (first | exact Below.refl _ _ | refine Below.alloc ?_ (by simp <;> omega) _)) (hb6.mono (by simp <;> omega))
  replace c_x_0 := cell_later hs6 c_x_0
  replace c_x_1 := cell_later hs6 c_x_1
  replace c_y_0 := cell_later hs6 c_y_0
  replace c_y_1 := cell_later hs6 c_y_1
  replace c_z_0 := cell_later hs6 c_z_0
  replace c_z_1 := cell_later hs6 c_z_1
  have c_s_0 : w6.cell? ⟨w5.heap.size, 0, none⟩ = some (.int .i64 (sn)) := (hb6.cell (by simp <;> omega)).trans (by go_simp)
  have c_s_1 : w6.cell? ⟨w5.heap.size, 1, none⟩ = some (.int .i64 (sd)) := (hb6.cell (by simp <;> omega)).trans (by go_simp)
  have z_s := World.block_lt_of_cell? _ _ c_s_0
  clear z_x
  have z_x := World.block_lt_of_cell? _ _ c_x_0
  clear z_y
  have z_y := World.block_lt_of_cell? _ _ c_y_0
  clear z_z
  have z_z := World.block_lt_of_cell? _ _ c_z_0
  have hB6 := below_two hB5 hs6
  clear hB5 hs6 hb6
  rw [S2.out.1, S2.out.2.1, S2.out.2.2]
  go_wp2_with fail
  refine (mul_any _ _ _ _ _).mono ?_
  rintro e w7 ⟨rfl, hb7⟩
  have hs7 : Below w6.heap.size w6 w7 := Below.trans (by repeat (first | exact Below.refl _ _ | refine Below.alloc ?_ (by simp <;> omega) _)) (hb7.mono (by simp <;> omega))
  replace c_x_0 := cell_later hs7 c_x_0
  replace c_x_1 := cell_later hs7 c_x_1
  replace c_y_0 := cell_later hs7 c_y_0
  replace c_y_1 := cell_later hs7 c_y_1
  replace c_z_0 := cell_later hs7 c_z_0
  replace c_z_1 := cell_later hs7 c_z_1
  replace c_s_0 := cell_later hs7 c_s_0
  replace c_s_1 := cell_later hs7 c_s_1
  have c_t_0 : w7.cell? ⟨w6.heap.size, 0, none⟩ = some (.int .i64 (sn)) := (hb7.cell (by simp <;> omega)).trans (by go_simp)
  have c_t_1 : w7.cell? ⟨w6.heap.size, 1, none⟩ = some (.int .i64 (sd)) := (hb7.cell (by simp <;> omega)).trans (by go_simp)
  clear z_s
  have z_s := World.block_lt_of_cell? _ _ c_s_0
  have z_t := World.block_lt_of_cell? _ _ c_t_0
  clear z_x
  have z_x := World.block_lt_of_cell? _ _ c_x_0
  clear z_y
  have z_y := World.block_lt_of_cell? _ _ c_y_0
  clear z_z
  have z_z := World.block_lt_of_cell? _ _ c_z_0
  have hB7 := below_two hB6 hs7
  clear hB6 hs7 hb7
  rw [M1.out.1, M1.out.2.1, M1.out.2.2]
  go_wp2_with fail
  refine (mul_any _ _ _ _ _).mono ?_
  rintro e w8 ⟨rfl, hb8⟩
  have hs8 : Below w7.heap.size w7 w8 := Below.trans (by repeat (first | exact Below.refl _ _ | refine Below.alloc ?_ (by simp <;> omega) _)) (hb8.mono (by simp <;> omega))
  replace c_x_0 := cell_later hs8 c_x_0
  replace c_x_1 := cell_later hs8 c_x_1
  replace c_y_0 := cell_later hs8 c_y_0
  replace c_y_1 := cell_later hs8 c_y_1
  replace c_z_0 := cell_later hs8 c_z_0
  replace c_z_1 := cell_later hs8 c_z_1
  replace c_s_0 := cell_later hs8 c_s_0
  replace c_s_1 := cell_later hs8 c_s_1
  replace c_t_0 := cell_later hs8 c_t_0
  replace c_t_1 := cell_later hs8 c_t_1
  have c_m_0 : w8.cell? ⟨w7.heap.size, 0, none⟩ = some (.int .i64 (mn)) := (hb8.cell (by simp <;> omega)).trans (by go_simp)
  have c_m_1 : w8.cell? ⟨w7.heap.size, 1, none⟩ = some (.int .i64 (md)) := (hb8.cell (by simp <;> omega)).trans (by go_simp)
  have z_m := World.block_lt_of_cell? _ _ c_m_0
  clear z_s
  have z_s := World.block_lt_of_cell? _ _ c_s_0
  clear z_t
  have z_t := World.block_lt_of_cell? _ _ c_t_0
  clear z_x
  have z_x := World.block_lt_of_cell? _ _ c_x_0
  clear z_y
  have z_y := World.block_lt_of_cell? _ _ c_y_0
  clear z_z
  have z_z := World.block_lt_of_cell? _ _ c_z_0
  have hB8 := below_two hB7 hs8
  clear hB7 hs8 hb8
  rw [M2.out.1, M2.out.2.1, M2.out.2.2]
  go_wp2_with fail
  refine (add_any _ _ _ _ _).mono ?_
  rintro e w9 ⟨rfl, hb9⟩
  have hs9 : Below w8.heap.size w8 w9 := Below.trans (by repeat (first | exact Below.refl _ _ | refine Below.alloc ?_ (by simp <;> omega) _)) (hb9.mono (by simp <;> omega))
  clear c_t_0
  clear c_t_1
  replace c_x_0 := cell_later hs9 c_x_0
  replace c_x_1 := cell_later hs9 c_x_1
  replace c_y_0 := cell_later hs9 c_y_0
  replace c_y_1 := cell_later hs9 c_y_1
  replace c_z_0 := cell_later hs9 c_z_0
  replace c_z_1 := cell_later hs9 c_z_1
  replace c_s_0 := cell_later hs9 c_s_0
  replace c_s_1 := cell_later hs9 c_s_1
  replace c_m_0 := cell_later hs9 c_m_0
  replace c_m_1 := cell_later hs9 c_m_1
  clear z_m
  have z_m := World.block_lt_of_cell? _ _ c_m_0
  clear z_s
  have z_s := World.block_lt_of_cell? _ _ c_s_0
  clear z_x
  have z_x := World.block_lt_of_cell? _ _ c_x_0
  clear z_y
  have z_y := World.block_lt_of_cell? _ _ c_y_0
  clear z_z
  have z_z := World.block_lt_of_cell? _ _ c_z_0
  clear z_t
  have hB9 := below_two hB8 hs9
  clear hB8 hs9 hb9
  rw [A1.out.1, A1.out.2.1, A1.out.2.2]
  go_wp2_with fail
  refine (add_any _ _ _ _ _).mono ?_
  rintro e w10 ⟨rfl, hb10⟩
  have hs10 : Below w9.heap.size w9 w10 := Below.trans (by repeat (first | exact Below.refl _ _ | refine Below.alloc ?_ (by simp <;> omega) _)) (hb10.mono (by simp <;> omega))
  replace c_x_0 := cell_later hs10 c_x_0
  replace c_x_1 := cell_later hs10 c_x_1
  replace c_y_0 := cell_later hs10 c_y_0
  replace c_y_1 := cell_later hs10 c_y_1
  replace c_z_0 := cell_later hs10 c_z_0
  replace c_z_1 := cell_later hs10 c_z_1
  replace c_s_0 := cell_later hs10 c_s_0
  replace c_s_1 := cell_later hs10 c_s_1
  replace c_m_0 := cell_later hs10 c_m_0
  replace c_m_1 := cell_later hs10 c_m_1
  have c_l_0 : w10.cell? ⟨w9.heap.size, 0, none⟩ = some (.int .i64 (ln)) := (hb10.cell (by simp <;> omega)).trans (by go_simp)
  have c_l_1 : w10.cell? ⟨w9.heap.size, 1, none⟩ = some (.int .i64 (ld)) := (hb10.cell (by simp <;> omega)).trans (by go_simp)
  have z_l := World.block_lt_of_cell? _ _ c_l_0
  clear z_m
  have z_m := World.block_lt_of_cell? _ _ c_m_0
  clear z_s
  have z_s := World.block_lt_of_cell? _ _ c_s_0
  clear z_x
  have z_x := World.block_lt_of_cell? _ _ c_x_0
  clear z_y
  have z_y := World.block_lt_of_cell? _ _ c_y_0
  clear z_z
  have z_z := World.block_lt_of_cell? _ _ c_z_0
  have hB10 := below_two hB9 hs10
  clear hB9 hs10 hb10
  rw [A2.out.1, A2.out.2.1, A2.out.2.2]
  go_wp2_with fail
  refine (add_any _ _ _ _ _).mono ?_
  rintro e w11 ⟨rfl, hb11⟩
  have hs11 : Below w10.heap.size w10 w11 := Below.trans (by repeat (first | exact Below.refl _ _ | refine Below.alloc ?_ (by simp <;> omega) _)) (hb11.mono (by simp <;> omega))
  replace c_x_0 := cell_later hs11 c_x_0
  replace c_x_1 := cell_later hs11 c_x_1
  replace c_y_0 := cell_later hs11 c_y_0
  replace c_y_1 := cell_later hs11 c_y_1
  replace c_z_0 := cell_later hs11 c_z_0
  replace c_z_1 := cell_later hs11 c_z_1
  replace c_s_0 := cell_later hs11 c_s_0
  replace c_s_1 := cell_later hs11 c_s_1
  replace c_m_0 := cell_later hs11 c_m_0
  replace c_m_1 := cell_later hs11 c_m_1
  replace c_l_0 := cell_later hs11 c_l_0
  replace c_l_1 := cell_later hs11 c_l_1
  have c_u_0 : w11.cell? ⟨w10.heap.size, 0, none⟩ = some (.int .i64 (un)) := (hb11.cell (by simp <;> omega)).trans (by go_simp)
  have c_u_1 : w11.cell? ⟨w10.heap.size, 1, none⟩ = some (.int .i64 (ud)) := (hb11.cell (by simp <;> omega)).trans (by go_simp)
  clear z_l
  have z_l := World.block_lt_of_cell? _ _ c_l_0
  clear z_m
  have z_m := World.block_lt_of_cell? _ _ c_m_0
  clear z_s
  have z_s := World.block_lt_of_cell? _ _ c_s_0
  have z_u := World.block_lt_of_cell? _ _ c_u_0
  clear z_x
  have z_x := World.block_lt_of_cell? _ _ c_x_0
  clear z_y
  have z_y := World.block_lt_of_cell? _ _ c_y_0
  clear z_z
  have z_z := World.block_lt_of_cell? _ _ c_z_0
  have hB11 := below_two hB10 hs11
  clear hB10 hs11 hb11
  rw [A3.out.1, A3.out.2.1, A3.out.2.2]
  go_wp2_with fail
  refine (mul_any _ _ _ _ _).mono ?_
  rintro e w12 ⟨rfl, hb12⟩
  have hs12 : Below w11.heap.size w11 w12 := Below.trans (by repeat (first | exact Below.refl _ _ | refine Below.alloc ?_ (by simp <;> omega) _)) (hb12.mono (by simp <;> omega))
  clear c_l_0
  clear c_l_1
  clear c_u_0
  clear c_u_1
  replace c_x_0 := cell_later hs12 c_x_0
  replace c_x_1 := cell_later hs12 c_x_1
  replace c_y_0 := cell_later hs12 c_y_0
  replace c_y_1 := cell_later hs12 c_y_1
  replace c_z_0 := cell_later hs12 c_z_0
  replace c_z_1 := cell_later hs12 c_z_1
  replace c_s_0 := cell_later hs12 c_s_0
  replace c_s_1 := cell_later hs12 c_s_1
  replace c_m_0 := cell_later hs12 c_m_0
  replace c_m_1 := cell_later hs12 c_m_1
  clear z_m
  have z_m := World.block_lt_of_cell? _ _ c_m_0
  clear z_s
  have z_s := World.block_lt_of_cell? _ _ c_s_0
  clear z_x
  have z_x := World.block_lt_of_cell? _ _ c_x_0
  clear z_y
  have z_y := World.block_lt_of_cell? _ _ c_y_0
  clear z_z
  have z_z := World.block_lt_of_cell? _ _ c_z_0
  clear z_l
  clear z_u
  have hB12 := below_two hB11 hs12
  clear hB11 hs12 hb12
  rw [B1.out.1, B1.out.2.1, B1.out.2.2]
  go_wp2_with fail
  refine (mul_any _ _ _ _ _).mono ?_
  rintro e w13 ⟨rfl, hb13⟩
  have hs13 : Below w12.heap.size w12 w13 := Below.trans (by repeat (first | exact Below.refl _ _ | refine Below.alloc ?_ (by simp <;> omega) _)) (hb13.mono (by simp <;> omega))
  replace c_x_0 := cell_later hs13 c_x_0
  replace c_x_1 := cell_later hs13 c_x_1
  replace c_y_0 := cell_later hs13 c_y_0
  replace c_y_1 := cell_later hs13 c_y_1
  replace c_z_0 := cell_later hs13 c_z_0
  replace c_z_1 := cell_later hs13 c_z_1
  replace c_s_0 := cell_later hs13 c_s_0
  replace c_s_1 := cell_later hs13 c_s_1
  replace c_m_0 := cell_later hs13 c_m_0
  replace c_m_1 := cell_later hs13 c_m_1
  have c_p_0 : w13.cell? ⟨w12.heap.size, 0, none⟩ = some (.int .i64 (pn)) := (hb13.cell (by simp <;> omega)).trans (by go_simp)
  have c_p_1 : w13.cell? ⟨w12.heap.size, 1, none⟩ = some (.int .i64 (pd)) := (hb13.cell (by simp <;> omega)).trans (by go_simp)
  clear z_m
  have z_m := World.block_lt_of_cell? _ _ c_m_0
  have z_p := World.block_lt_of_cell? _ _ c_p_0
  clear z_s
  have z_s := World.block_lt_of_cell? _ _ c_s_0
  clear z_x
  have z_x := World.block_lt_of_cell? _ _ c_x_0
  clear z_y
  have z_y := World.block_lt_of_cell? _ _ c_y_0
  clear z_z
  have z_z := World.block_lt_of_cell? _ _ c_z_0
  have hB13 := below_two hB12 hs13
  clear hB12 hs13 hb13
  rw [B2.out.1, B2.out.2.1, B2.out.2.2]
  go_wp2_with fail
  refine (mul_any _ _ _ _ _).mono ?_
  rintro e w14 ⟨rfl, hb14⟩
  have hs14 : Below w13.heap.size w13 w14 := Below.trans (by repeat (first | exact Below.refl _ _ | refine Below.alloc ?_ (by simp <;> omega) _)) (hb14.mono (by simp <;> omega))
  replace c_x_0 := cell_later hs14 c_x_0
  replace c_x_1 := cell_later hs14 c_x_1
  replace c_y_0 := cell_later hs14 c_y_0
  replace c_y_1 := cell_later hs14 c_y_1
  replace c_z_0 := cell_later hs14 c_z_0
  replace c_z_1 := cell_later hs14 c_z_1
  replace c_s_0 := cell_later hs14 c_s_0
  replace c_s_1 := cell_later hs14 c_s_1
  replace c_m_0 := cell_later hs14 c_m_0
  replace c_m_1 := cell_later hs14 c_m_1
  replace c_p_0 := cell_later hs14 c_p_0
  replace c_p_1 := cell_later hs14 c_p_1
  have c_v_0 : w14.cell? ⟨w13.heap.size, 0, none⟩ = some (.int .i64 (vn)) := (hb14.cell (by simp <;> omega)).trans (by go_simp)
  have c_v_1 : w14.cell? ⟨w13.heap.size, 1, none⟩ = some (.int .i64 (vd)) := (hb14.cell (by simp <;> omega)).trans (by go_simp)
  clear z_m
  have z_m := World.block_lt_of_cell? _ _ c_m_0
  clear z_p
  have z_p := World.block_lt_of_cell? _ _ c_p_0
  clear z_s
  have z_s := World.block_lt_of_cell? _ _ c_s_0
  have z_v := World.block_lt_of_cell? _ _ c_v_0
  clear z_x
  have z_x := World.block_lt_of_cell? _ _ c_x_0
  clear z_y
  have z_y := World.block_lt_of_cell? _ _ c_y_0
  clear z_z
  have z_z := World.block_lt_of_cell? _ _ c_z_0
  have hB14 := below_two hB13 hs14
  clear hB13 hs14 hb14
  rw [B3.out.1, B3.out.2.1, B3.out.2.2]
  go_wp2_with fail
  refine (mul_any _ _ _ _ _).mono ?_
  rintro e w15 ⟨rfl, hb15⟩
  have hs15 : Below w14.heap.size w14 w15 := Below.trans (by repeat (first | exact Below.refl _ _ | refine Below.alloc ?_ (by simp <;> omega) _)) (hb15.mono (by simp <;> omega))
  clear c_p_0
  clear c_p_1
  replace c_x_0 := cell_later hs15 c_x_0
  replace c_x_1 := cell_later hs15 c_x_1
  replace c_y_0 := cell_later hs15 c_y_0
  replace c_y_1 := cell_later hs15 c_y_1
  replace c_z_0 := cell_later hs15 c_z_0
  replace c_z_1 := cell_later hs15 c_z_1
  replace c_s_0 := cell_later hs15 c_s_0
  replace c_s_1 := cell_later hs15 c_s_1
  replace c_m_0 := cell_later hs15 c_m_0
  replace c_m_1 := cell_later hs15 c_m_1
  replace c_v_0 := cell_later hs15 c_v_0
  replace c_v_1 := cell_later hs15 c_v_1
  clear z_m
  have z_m := World.block_lt_of_cell? _ _ c_m_0
  clear z_s
  have z_s := World.block_lt_of_cell? _ _ c_s_0
  clear z_v
  have z_v := World.block_lt_of_cell? _ _ c_v_0
  clear z_x
  have z_x := World.block_lt_of_cell? _ _ c_x_0
  clear z_y
  have z_y := World.block_lt_of_cell? _ _ c_y_0
  clear z_z
  have z_z := World.block_lt_of_cell? _ _ c_z_0
  clear z_p
  have hB15 := below_two hB14 hs15
  clear hB14 hs15 hb15
  rw [D1.out.1, D1.out.2.1, D1.out.2.2]
  go_wp2_with fail
  refine (add_any _ _ _ _ _).mono ?_
  rintro e w16 ⟨rfl, hb16⟩
  have hs16 : Below w15.heap.size w15 w16 := Below.trans (by repeat (first | exact Below.refl _ _ | refine Below.alloc ?_ (by simp <;> omega) _)) (hb16.mono (by simp <;> omega))
  clear c_x_0
  clear c_x_1
  clear c_y_0
  clear c_y_1
  clear c_m_0
  clear c_m_1
  replace c_z_0 := cell_later hs16 c_z_0
  replace c_z_1 := cell_later hs16 c_z_1
  replace c_s_0 := cell_later hs16 c_s_0
  replace c_s_1 := cell_later hs16 c_s_1
  replace c_v_0 := cell_later hs16 c_v_0
  replace c_v_1 := cell_later hs16 c_v_1
  have c_w0_0 : w16.cell? ⟨w15.heap.size, 0, none⟩ = some (.int .i64 (wn)) := (hb16.cell (by simp <;> omega)).trans (by go_simp)
  have c_w0_1 : w16.cell? ⟨w15.heap.size, 1, none⟩ = some (.int .i64 (wd)) := (hb16.cell (by simp <;> omega)).trans (by go_simp)
  clear z_s
  have z_s := World.block_lt_of_cell? _ _ c_s_0
  clear z_v
  have z_v := World.block_lt_of_cell? _ _ c_v_0
  have z_w0 := World.block_lt_of_cell? _ _ c_w0_0
  clear z_z
  have z_z := World.block_lt_of_cell? _ _ c_z_0
  clear z_m
  clear z_x
  clear z_y
  have hB16 := below_two hB15 hs16
  clear hB15 hs16 hb16
  rw [D2.out.1, D2.out.2.1, D2.out.2.2]
  go_wp2_with fail
  refine (mul_any _ _ _ _ _).mono ?_
  rintro e w17 ⟨rfl, hb17⟩
  have hs17 : Below w16.heap.size w16 w17 := Below.trans (by repeat (first | exact Below.refl _ _ | refine Below.alloc ?_ (by simp <;> omega) _)) (hb17.mono (by simp <;> omega))
  clear c_v_0
  clear c_v_1
  clear c_w0_0
  clear c_w0_1
  replace c_z_0 := cell_later hs17 c_z_0
  replace c_z_1 := cell_later hs17 c_z_1
  replace c_s_0 := cell_later hs17 c_s_0
  replace c_s_1 := cell_later hs17 c_s_1
  have c_b_0 : w17.cell? ⟨w16.heap.size, 0, none⟩ = some (.int .i64 (bn)) := (hb17.cell (by simp <;> omega)).trans (by go_simp)
  have c_b_1 : w17.cell? ⟨w16.heap.size, 1, none⟩ = some (.int .i64 (bd)) := (hb17.cell (by simp <;> omega)).trans (by go_simp)
  have z_b := World.block_lt_of_cell? _ _ c_b_0
  clear z_s
  have z_s := World.block_lt_of_cell? _ _ c_s_0
  clear z_z
  have z_z := World.block_lt_of_cell? _ _ c_z_0
  clear z_v
  clear z_w0
  have hB17 := below_two hB16 hs17
  clear hB16 hs17 hb17
  rw [D3.out.1, D3.out.2.1, D3.out.2.2]
  clear HX HY HZ S1 S2 M1 M2 A1 A2 A3 B1 B2 B3 D1 D2 D3
  go_wp2
  all_goals first
    | (go_ret; exact ⟨rfl, (hB17.alloc hB17.size _)⟩)
    | (have i1 := HI.out; clear HI heq hne hself; go_ret; refine ⟨ret_bool ?_, (hB17.alloc hB17.size _)⟩; simp_all; done)
    | (exfalso; have i1 := HI.out; clear HI heq hne hself; simp_all)

set_option maxRecDepth 100000 in
set_option maxHeartbeats 4000000 in
theorem turns_44 (a0 b0 a1 b1 a2 b2 xn xd yn yd zn zd sn sd mn md ln ld un ud pn pd vn vd wn wd bn bd tn td d add mul : Int) (w : World) (hR : Ready w) (HX : Hid (∀ w, Calls Tryd.prog 17 #[rt a0 b0] w fun e w' => e = .returned (rt xn xd) ∧ Below w.heap.size w w')) (HY : Hid (∀ w, Calls Tryd.prog 17 #[rt a1 b1] w fun e w' => e = .returned (rt yn yd) ∧ Below w.heap.size w w')) (HZ : Hid (∀ w, Calls Tryd.prog 17 #[rt a2 b2] w fun e w' => e = .returned (rt zn zd) ∧ Below w.heap.size w w')) (S1 : Hid (binN (Rat.right xn xd && Rat.right yn yd) (xn * yd + yn * xd) (xd * yd) = sn ∧ binD (Rat.right xn xd && Rat.right yn yd) (xn * yd + yn * xd) (xd * yd) = sd ∧ binE (Rat.right xn xd && Rat.right yn yd) (xn * yd + yn * xd) (xd * yd) = 0)) (S2 : Hid (binN (Rat.right yn yd && Rat.right xn xd) (yn * xd + xn * yd) (yd * xd) = sn ∧ binD (Rat.right yn yd && Rat.right xn xd) (yn * xd + xn * yd) (yd * xd) = sd ∧ binE (Rat.right yn yd && Rat.right xn xd) (yn * xd + xn * yd) (yd * xd) = 0)) (M1 : Hid (binN (Rat.right xn xd && Rat.right yn yd) (xn * yn) (xd * yd) = mn ∧ binD (Rat.right xn xd && Rat.right yn yd) (xn * yn) (xd * yd) = md ∧ binE (Rat.right xn xd && Rat.right yn yd) (xn * yn) (xd * yd) = 0)) (M2 : Hid (binN (Rat.right yn yd && Rat.right xn xd) (yn * xn) (yd * xd) = mn ∧ binD (Rat.right yn yd && Rat.right xn xd) (yn * xn) (yd * xd) = md ∧ binE (Rat.right yn yd && Rat.right xn xd) (yn * xn) (yd * xd) = 0)) (A1 : Hid (binN (Rat.right sn sd && Rat.right zn zd) (sn * zd + zn * sd) (sd * zd) = ln ∧ binD (Rat.right sn sd && Rat.right zn zd) (sn * zd + zn * sd) (sd * zd) = ld ∧ binE (Rat.right sn sd && Rat.right zn zd) (sn * zd + zn * sd) (sd * zd) = 0)) (A2 : Hid (binN (Rat.right yn yd && Rat.right zn zd) (yn * zd + zn * yd) (yd * zd) = un ∧ binD (Rat.right yn yd && Rat.right zn zd) (yn * zd + zn * yd) (yd * zd) = ud ∧ binE (Rat.right yn yd && Rat.right zn zd) (yn * zd + zn * yd) (yd * zd) = 0)) (A3 : Hid (binN (Rat.right xn xd && Rat.right un ud) (xn * ud + un * xd) (xd * ud) = ln ∧ binD (Rat.right xn xd && Rat.right un ud) (xn * ud + un * xd) (xd * ud) = ld ∧ binE (Rat.right xn xd && Rat.right un ud) (xn * ud + un * xd) (xd * ud) = 0)) (B1 : Hid (binN (Rat.right mn md && Rat.right zn zd) (mn * zn) (md * zd) = pn ∧ binD (Rat.right mn md && Rat.right zn zd) (mn * zn) (md * zd) = pd ∧ binE (Rat.right mn md && Rat.right zn zd) (mn * zn) (md * zd) = 0)) (B2 : Hid (binN (Rat.right yn yd && Rat.right zn zd) (yn * zn) (yd * zd) = vn ∧ binD (Rat.right yn yd && Rat.right zn zd) (yn * zn) (yd * zd) = vd ∧ binE (Rat.right yn yd && Rat.right zn zd) (yn * zn) (yd * zd) = 0)) (B3 : Hid (binN (Rat.right xn xd && Rat.right vn vd) (xn * vn) (xd * vd) = pn ∧ binD (Rat.right xn xd && Rat.right vn vd) (xn * vn) (xd * vd) = pd ∧ binE (Rat.right xn xd && Rat.right vn vd) (xn * vn) (xd * vd) = 0)) (D1 : Hid (binN (Rat.right xn xd && Rat.right zn zd) (xn * zn) (xd * zd) = wn ∧ binD (Rat.right xn xd && Rat.right zn zd) (xn * zn) (xd * zd) = wd ∧ binE (Rat.right xn xd && Rat.right zn zd) (xn * zn) (xd * zd) = d)) (D2 : Hid (binN (Rat.right wn wd && Rat.right vn vd) (wn * vd + vn * wd) (wd * vd) = bn ∧ binD (Rat.right wn wd && Rat.right vn vd) (wn * vd + vn * wd) (wd * vd) = bd ∧ binE (Rat.right wn wd && Rat.right vn vd) (wn * vd + vn * wd) (wd * vd) = add)) (D3 : Hid (binN (Rat.right sn sd && Rat.right zn zd) (sn * zn) (sd * zd) = tn ∧ binD (Rat.right sn sd && Rat.right zn zd) (sn * zn) (sd * zd) = td ∧ binE (Rat.right sn sd && Rat.right zn zd) (sn * zn) (sd * zd) = mul)) (HI : Hid (d = 0 → 0 = 0 → add = 0 → 0 = 0 → mul = 0 ∧ eqR tn td bn bd = true)) : Calls Tryd.prog 5 #[rt a0 b0, rt a1 b1, rt a2 b2] w fun e w' => e = .returned (.bool true) ∧ Below w.heap.size w w' := by
  have hgR := guardR
  have heq := eql_rt
  have hne := neq_rt
  have hself := eqR_self
  have hB0 : Below w.heap.size w w := Below.refl _ _
  go_enter Tryd.func5, Tryd.ntmps5
  go_wp2_with fail
  have hR' := hR.below ((((Below.refl _ _).alloc (Nat.le_refl _) (.cells #[.int .i64 a0, .int .i64 b0] 23)).alloc (by simp) (.cells #[.int .i64 a1, .int .i64 b1] 23)).alloc (by simp; omega) (.cells #[.int .i64 a2, .int .i64 b2] 23))
  refine (examples_any _ hR').mono ?_
  rintro e w1 ⟨rfl, hb1⟩
  have hs1 : Below w.heap.size w w1 := Below.trans (by repeat (first | exact Below.refl _ _ | refine Below.alloc ?_ (by simp <;> omega) _)) (hb1.mono (by simp <;> omega))
  have c_p0_0 : w1.cell? ⟨w.heap.size, 0, none⟩ = some (.int .i64 (a0)) := (hb1.cell (by simp <;> omega)).trans (by go_simp)
  have c_p0_1 : w1.cell? ⟨w.heap.size, 1, none⟩ = some (.int .i64 (b0)) := (hb1.cell (by simp <;> omega)).trans (by go_simp)
  have c_p1_0 : w1.cell? ⟨w.heap.size + 1, 0, none⟩ = some (.int .i64 (a1)) := (hb1.cell (by simp <;> omega)).trans (by go_simp)
  have c_p1_1 : w1.cell? ⟨w.heap.size + 1, 1, none⟩ = some (.int .i64 (b1)) := (hb1.cell (by simp <;> omega)).trans (by go_simp)
  have c_p2_0 : w1.cell? ⟨w.heap.size + 1 + 1, 0, none⟩ = some (.int .i64 (a2)) := (hb1.cell (by simp <;> omega)).trans (by go_simp)
  have c_p2_1 : w1.cell? ⟨w.heap.size + 1 + 1, 1, none⟩ = some (.int .i64 (b2)) := (hb1.cell (by simp <;> omega)).trans (by go_simp)
  have z_p0 := World.block_lt_of_cell? _ _ c_p0_0
  have z_p1 := World.block_lt_of_cell? _ _ c_p1_0
  have z_p2 := World.block_lt_of_cell? _ _ c_p2_0
  have hB1 := below_two hB0 hs1
  clear hB0 hs1 hb1
  clear hR' hR
  go_wp2_with fail
  refine (HX.out _).mono ?_
  rintro e w2 ⟨rfl, hb2⟩
  have hs2 := hb2
  clear c_p0_0
  clear c_p0_1
  replace c_p1_0 := cell_later hs2 c_p1_0
  replace c_p1_1 := cell_later hs2 c_p1_1
  replace c_p2_0 := cell_later hs2 c_p2_0
  replace c_p2_1 := cell_later hs2 c_p2_1
  clear z_p1
  have z_p1 := World.block_lt_of_cell? _ _ c_p1_0
  clear z_p2
  have z_p2 := World.block_lt_of_cell? _ _ c_p2_0
  clear z_p0
  have hB2 := below_two hB1 hs2
  clear hB1 hs2
  go_wp2_with fail
  refine (HY.out _).mono ?_
  rintro e w3 ⟨rfl, hb3⟩
  have hs3 : Below w2.heap.size w2 w3 := Below.trans (by repeat (first | exact Below.refl _ _ | refine Below.alloc ?_ (by simp <;> omega) _)) (hb3.mono (by simp <;> omega))
  clear c_p1_0
  clear c_p1_1
  replace c_p2_0 := cell_later hs3 c_p2_0
  replace c_p2_1 := cell_later hs3 c_p2_1
  have c_x_0 : w3.cell? ⟨w2.heap.size, 0, none⟩ = some (.int .i64 (xn)) := (hb3.cell (by simp <;> omega)).trans (by go_simp)
  have c_x_1 : w3.cell? ⟨w2.heap.size, 1, none⟩ = some (.int .i64 (xd)) := (hb3.cell (by simp <;> omega)).trans (by go_simp)
  clear z_p2
  have z_p2 := World.block_lt_of_cell? _ _ c_p2_0
  have z_x := World.block_lt_of_cell? _ _ c_x_0
  clear z_p1
  have hB3 := below_two hB2 hs3
  clear hB2 hs3 hb3
  go_wp2_with fail
  refine (HZ.out _).mono ?_
  rintro e w4 ⟨rfl, hb4⟩
  have hs4 : Below w3.heap.size w3 w4 := Below.trans (by repeat (first | exact Below.refl _ _ | refine Below.alloc ?_ (by simp <;> omega) _)) (hb4.mono (by simp <;> omega))
  clear c_p2_0
  clear c_p2_1
  replace c_x_0 := cell_later hs4 c_x_0
  replace c_x_1 := cell_later hs4 c_x_1
  have c_y_0 : w4.cell? ⟨w3.heap.size, 0, none⟩ = some (.int .i64 (yn)) := (hb4.cell (by simp <;> omega)).trans (by go_simp)
  have c_y_1 : w4.cell? ⟨w3.heap.size, 1, none⟩ = some (.int .i64 (yd)) := (hb4.cell (by simp <;> omega)).trans (by go_simp)
  clear z_x
  have z_x := World.block_lt_of_cell? _ _ c_x_0
  have z_y := World.block_lt_of_cell? _ _ c_y_0
  clear z_p2
  have hB4 := below_two hB3 hs4
  clear hB3 hs4 hb4
  go_wp2_with fail
  refine (add_any _ _ _ _ _).mono ?_
  rintro e w5 ⟨rfl, hb5⟩
  have hs5 : Below w4.heap.size w4 w5 := Below.trans (by repeat (first | exact Below.refl _ _ | refine Below.alloc ?_ (by simp <;> omega) _)) (hb5.mono (by simp <;> omega))
  replace c_x_0 := cell_later hs5 c_x_0
  replace c_x_1 := cell_later hs5 c_x_1
  replace c_y_0 := cell_later hs5 c_y_0
  replace c_y_1 := cell_later hs5 c_y_1
  have c_z_0 : w5.cell? ⟨w4.heap.size, 0, none⟩ = some (.int .i64 (zn)) := (hb5.cell (by simp <;> omega)).trans (by go_simp)
  have c_z_1 : w5.cell? ⟨w4.heap.size, 1, none⟩ = some (.int .i64 (zd)) := (hb5.cell (by simp <;> omega)).trans (by go_simp)
  clear z_x
  have z_x := World.block_lt_of_cell? _ _ c_x_0
  clear z_y
  have z_y := World.block_lt_of_cell? _ _ c_y_0
  have z_z := World.block_lt_of_cell? _ _ c_z_0
  have hB5 := below_two hB4 hs5
  clear hB4 hs5 hb5
  rw [S1.out.1, S1.out.2.1, S1.out.2.2]
  go_wp2_with fail
  refine (add_any _ _ _ _ _).mono ?_
  rintro e w6 ⟨rfl, hb6⟩
  have hs6 : Below w5.heap.size w5 w6 := Below.trans (by repeat (first | exact Below.refl _ _ | refine Below.alloc ?_ (by simp <;> omega) _)) (hb6.mono (by simp <;> omega))
  replace c_x_0 := cell_later hs6 c_x_0
  replace c_x_1 := cell_later hs6 c_x_1
  replace c_y_0 := cell_later hs6 c_y_0
  replace c_y_1 := cell_later hs6 c_y_1
  replace c_z_0 := cell_later hs6 c_z_0
  replace c_z_1 := cell_later hs6 c_z_1
  have c_s_0 : w6.cell? ⟨w5.heap.size, 0, none⟩ = some (.int .i64 (sn)) := (hb6.cell (by simp <;> omega)).trans (by go_simp)
  have c_s_1 : w6.cell? ⟨w5.heap.size, 1, none⟩ = some (.int .i64 (sd)) := (hb6.cell (by simp <;> omega)).trans (by go_simp)
  have z_s := World.block_lt_of_cell? _ _ c_s_0
  clear z_x
  have z_x := World.block_lt_of_cell? _ _ c_x_0
  clear z_y
  have z_y := World.block_lt_of_cell? _ _ c_y_0
  clear z_z
  have z_z := World.block_lt_of_cell? _ _ c_z_0
  have hB6 := below_two hB5 hs6
  clear hB5 hs6 hb6
  rw [S2.out.1, S2.out.2.1, S2.out.2.2]
  go_wp2_with fail
  refine (mul_any _ _ _ _ _).mono ?_
  rintro e w7 ⟨rfl, hb7⟩
  have hs7 : Below w6.heap.size w6 w7 := Below.trans (by repeat (first | exact Below.refl _ _ | refine Below.alloc ?_ (by simp <;> omega) _)) (hb7.mono (by simp <;> omega))
  replace c_x_0 := cell_later hs7 c_x_0
  replace c_x_1 := cell_later hs7 c_x_1
  replace c_y_0 := cell_later hs7 c_y_0
  replace c_y_1 := cell_later hs7 c_y_1
  replace c_z_0 := cell_later hs7 c_z_0
  replace c_z_1 := cell_later hs7 c_z_1
  replace c_s_0 := cell_later hs7 c_s_0
  replace c_s_1 := cell_later hs7 c_s_1
  have c_t_0 : w7.cell? ⟨w6.heap.size, 0, none⟩ = some (.int .i64 (sn)) := (hb7.cell (by simp <;> omega)).trans (by go_simp)
  have c_t_1 : w7.cell? ⟨w6.heap.size, 1, none⟩ = some (.int .i64 (sd)) := (hb7.cell (by simp <;> omega)).trans (by go_simp)
  clear z_s
  have z_s := World.block_lt_of_cell? _ _ c_s_0
  have z_t := World.block_lt_of_cell? _ _ c_t_0
  clear z_x
  have z_x := World.block_lt_of_cell? _ _ c_x_0
  clear z_y
  have z_y := World.block_lt_of_cell? _ _ c_y_0
  clear z_z
  have z_z := World.block_lt_of_cell? _ _ c_z_0
  have hB7 := below_two hB6 hs7
  clear hB6 hs7 hb7
  rw [M1.out.1, M1.out.2.1, M1.out.2.2]
  go_wp2_with fail
  refine (mul_any _ _ _ _ _).mono ?_
  rintro e w8 ⟨rfl, hb8⟩
  have hs8 : Below w7.heap.size w7 w8 := Below.trans (by repeat (first | exact Below.refl _ _ | refine Below.alloc ?_ (by simp <;> omega) _)) (hb8.mono (by simp <;> omega))
  replace c_x_0 := cell_later hs8 c_x_0
  replace c_x_1 := cell_later hs8 c_x_1
  replace c_y_0 := cell_later hs8 c_y_0
  replace c_y_1 := cell_later hs8 c_y_1
  replace c_z_0 := cell_later hs8 c_z_0
  replace c_z_1 := cell_later hs8 c_z_1
  replace c_s_0 := cell_later hs8 c_s_0
  replace c_s_1 := cell_later hs8 c_s_1
  replace c_t_0 := cell_later hs8 c_t_0
  replace c_t_1 := cell_later hs8 c_t_1
  have c_m_0 : w8.cell? ⟨w7.heap.size, 0, none⟩ = some (.int .i64 (mn)) := (hb8.cell (by simp <;> omega)).trans (by go_simp)
  have c_m_1 : w8.cell? ⟨w7.heap.size, 1, none⟩ = some (.int .i64 (md)) := (hb8.cell (by simp <;> omega)).trans (by go_simp)
  have z_m := World.block_lt_of_cell? _ _ c_m_0
  clear z_s
  have z_s := World.block_lt_of_cell? _ _ c_s_0
  clear z_t
  have z_t := World.block_lt_of_cell? _ _ c_t_0
  clear z_x
  have z_x := World.block_lt_of_cell? _ _ c_x_0
  clear z_y
  have z_y := World.block_lt_of_cell? _ _ c_y_0
  clear z_z
  have z_z := World.block_lt_of_cell? _ _ c_z_0
  have hB8 := below_two hB7 hs8
  clear hB7 hs8 hb8
  rw [M2.out.1, M2.out.2.1, M2.out.2.2]
  go_wp2_with fail
  refine (add_any _ _ _ _ _).mono ?_
  rintro e w9 ⟨rfl, hb9⟩
  have hs9 : Below w8.heap.size w8 w9 := Below.trans (by repeat (first | exact Below.refl _ _ | refine Below.alloc ?_ (by simp <;> omega) _)) (hb9.mono (by simp <;> omega))
  clear c_t_0
  clear c_t_1
  replace c_x_0 := cell_later hs9 c_x_0
  replace c_x_1 := cell_later hs9 c_x_1
  replace c_y_0 := cell_later hs9 c_y_0
  replace c_y_1 := cell_later hs9 c_y_1
  replace c_z_0 := cell_later hs9 c_z_0
  replace c_z_1 := cell_later hs9 c_z_1
  replace c_s_0 := cell_later hs9 c_s_0
  replace c_s_1 := cell_later hs9 c_s_1
  replace c_m_0 := cell_later hs9 c_m_0
  replace c_m_1 := cell_later hs9 c_m_1
  clear z_m
  have z_m := World.block_lt_of_cell? _ _ c_m_0
  clear z_s
  have z_s := World.block_lt_of_cell? _ _ c_s_0
  clear z_x
  have z_x := World.block_lt_of_cell? _ _ c_x_0
  clear z_y
  have z_y := World.block_lt_of_cell? _ _ c_y_0
  clear z_z
  have z_z := World.block_lt_of_cell? _ _ c_z_0
  clear z_t
  have hB9 := below_two hB8 hs9
  clear hB8 hs9 hb9
  rw [A1.out.1, A1.out.2.1, A1.out.2.2]
  go_wp2_with fail
  refine (add_any _ _ _ _ _).mono ?_
  rintro e w10 ⟨rfl, hb10⟩
  have hs10 : Below w9.heap.size w9 w10 := Below.trans (by repeat (first | exact Below.refl _ _ | refine Below.alloc ?_ (by simp <;> omega) _)) (hb10.mono (by simp <;> omega))
  replace c_x_0 := cell_later hs10 c_x_0
  replace c_x_1 := cell_later hs10 c_x_1
  replace c_y_0 := cell_later hs10 c_y_0
  replace c_y_1 := cell_later hs10 c_y_1
  replace c_z_0 := cell_later hs10 c_z_0
  replace c_z_1 := cell_later hs10 c_z_1
  replace c_s_0 := cell_later hs10 c_s_0
  replace c_s_1 := cell_later hs10 c_s_1
  replace c_m_0 := cell_later hs10 c_m_0
  replace c_m_1 := cell_later hs10 c_m_1
  have c_l_0 : w10.cell? ⟨w9.heap.size, 0, none⟩ = some (.int .i64 (ln)) := (hb10.cell (by simp <;> omega)).trans (by go_simp)
  have c_l_1 : w10.cell? ⟨w9.heap.size, 1, none⟩ = some (.int .i64 (ld)) := (hb10.cell (by simp <;> omega)).trans (by go_simp)
  have z_l := World.block_lt_of_cell? _ _ c_l_0
  clear z_m
  have z_m := World.block_lt_of_cell? _ _ c_m_0
  clear z_s
  have z_s := World.block_lt_of_cell? _ _ c_s_0
  clear z_x
  have z_x := World.block_lt_of_cell? _ _ c_x_0
  clear z_y
  have z_y := World.block_lt_of_cell? _ _ c_y_0
  clear z_z
  have z_z := World.block_lt_of_cell? _ _ c_z_0
  have hB10 := below_two hB9 hs10
  clear hB9 hs10 hb10
  rw [A2.out.1, A2.out.2.1, A2.out.2.2]
  go_wp2_with fail
  refine (add_any _ _ _ _ _).mono ?_
  rintro e w11 ⟨rfl, hb11⟩
  have hs11 : Below w10.heap.size w10 w11 := Below.trans (by repeat (first | exact Below.refl _ _ | refine Below.alloc ?_ (by simp <;> omega) _)) (hb11.mono (by simp <;> omega))
  replace c_x_0 := cell_later hs11 c_x_0
  replace c_x_1 := cell_later hs11 c_x_1
  replace c_y_0 := cell_later hs11 c_y_0
  replace c_y_1 := cell_later hs11 c_y_1
  replace c_z_0 := cell_later hs11 c_z_0
  replace c_z_1 := cell_later hs11 c_z_1
  replace c_s_0 := cell_later hs11 c_s_0
  replace c_s_1 := cell_later hs11 c_s_1
  replace c_m_0 := cell_later hs11 c_m_0
  replace c_m_1 := cell_later hs11 c_m_1
  replace c_l_0 := cell_later hs11 c_l_0
  replace c_l_1 := cell_later hs11 c_l_1
  have c_u_0 : w11.cell? ⟨w10.heap.size, 0, none⟩ = some (.int .i64 (un)) := (hb11.cell (by simp <;> omega)).trans (by go_simp)
  have c_u_1 : w11.cell? ⟨w10.heap.size, 1, none⟩ = some (.int .i64 (ud)) := (hb11.cell (by simp <;> omega)).trans (by go_simp)
  clear z_l
  have z_l := World.block_lt_of_cell? _ _ c_l_0
  clear z_m
  have z_m := World.block_lt_of_cell? _ _ c_m_0
  clear z_s
  have z_s := World.block_lt_of_cell? _ _ c_s_0
  have z_u := World.block_lt_of_cell? _ _ c_u_0
  clear z_x
  have z_x := World.block_lt_of_cell? _ _ c_x_0
  clear z_y
  have z_y := World.block_lt_of_cell? _ _ c_y_0
  clear z_z
  have z_z := World.block_lt_of_cell? _ _ c_z_0
  have hB11 := below_two hB10 hs11
  clear hB10 hs11 hb11
  rw [A3.out.1, A3.out.2.1, A3.out.2.2]
  go_wp2_with fail
  refine (mul_any _ _ _ _ _).mono ?_
  rintro e w12 ⟨rfl, hb12⟩
  have hs12 : Below w11.heap.size w11 w12 := Below.trans (by repeat (first | exact Below.refl _ _ | refine Below.alloc ?_ (by simp <;> omega) _)) (hb12.mono (by simp <;> omega))
  clear c_l_0
  clear c_l_1
  clear c_u_0
  clear c_u_1
  replace c_x_0 := cell_later hs12 c_x_0
  replace c_x_1 := cell_later hs12 c_x_1
  replace c_y_0 := cell_later hs12 c_y_0
  replace c_y_1 := cell_later hs12 c_y_1
  replace c_z_0 := cell_later hs12 c_z_0
  replace c_z_1 := cell_later hs12 c_z_1
  replace c_s_0 := cell_later hs12 c_s_0
  replace c_s_1 := cell_later hs12 c_s_1
  replace c_m_0 := cell_later hs12 c_m_0
  replace c_m_1 := cell_later hs12 c_m_1
  clear z_m
  have z_m := World.block_lt_of_cell? _ _ c_m_0
  clear z_s
  have z_s := World.block_lt_of_cell? _ _ c_s_0
  clear z_x
  have z_x := World.block_lt_of_cell? _ _ c_x_0
  clear z_y
  have z_y := World.block_lt_of_cell? _ _ c_y_0
  clear z_z
  have z_z := World.block_lt_of_cell? _ _ c_z_0
  clear z_l
  clear z_u
  have hB12 := below_two hB11 hs12
  clear hB11 hs12 hb12
  rw [B1.out.1, B1.out.2.1, B1.out.2.2]
  go_wp2_with fail
  refine (mul_any _ _ _ _ _).mono ?_
  rintro e w13 ⟨rfl, hb13⟩
  have hs13 : Below w12.heap.size w12 w13 := Below.trans (by repeat (first | exact Below.refl _ _ | refine Below.alloc ?_ (by simp <;> omega) _)) (hb13.mono (by simp <;> omega))
  replace c_x_0 := cell_later hs13 c_x_0
  replace c_x_1 := cell_later hs13 c_x_1
  replace c_y_0 := cell_later hs13 c_y_0
  replace c_y_1 := cell_later hs13 c_y_1
  replace c_z_0 := cell_later hs13 c_z_0
  replace c_z_1 := cell_later hs13 c_z_1
  replace c_s_0 := cell_later hs13 c_s_0
  replace c_s_1 := cell_later hs13 c_s_1
  replace c_m_0 := cell_later hs13 c_m_0
  replace c_m_1 := cell_later hs13 c_m_1
  have c_p_0 : w13.cell? ⟨w12.heap.size, 0, none⟩ = some (.int .i64 (pn)) := (hb13.cell (by simp <;> omega)).trans (by go_simp)
  have c_p_1 : w13.cell? ⟨w12.heap.size, 1, none⟩ = some (.int .i64 (pd)) := (hb13.cell (by simp <;> omega)).trans (by go_simp)
  clear z_m
  have z_m := World.block_lt_of_cell? _ _ c_m_0
  have z_p := World.block_lt_of_cell? _ _ c_p_0
  clear z_s
  have z_s := World.block_lt_of_cell? _ _ c_s_0
  clear z_x
  have z_x := World.block_lt_of_cell? _ _ c_x_0
  clear z_y
  have z_y := World.block_lt_of_cell? _ _ c_y_0
  clear z_z
  have z_z := World.block_lt_of_cell? _ _ c_z_0
  have hB13 := below_two hB12 hs13
  clear hB12 hs13 hb13
  rw [B2.out.1, B2.out.2.1, B2.out.2.2]
  go_wp2_with fail
  refine (mul_any _ _ _ _ _).mono ?_
  rintro e w14 ⟨rfl, hb14⟩
  have hs14 : Below w13.heap.size w13 w14 := Below.trans (by repeat (first | exact Below.refl _ _ | refine Below.alloc ?_ (by simp <;> omega) _)) (hb14.mono (by simp <;> omega))
  replace c_x_0 := cell_later hs14 c_x_0
  replace c_x_1 := cell_later hs14 c_x_1
  replace c_y_0 := cell_later hs14 c_y_0
  replace c_y_1 := cell_later hs14 c_y_1
  replace c_z_0 := cell_later hs14 c_z_0
  replace c_z_1 := cell_later hs14 c_z_1
  replace c_s_0 := cell_later hs14 c_s_0
  replace c_s_1 := cell_later hs14 c_s_1
  replace c_m_0 := cell_later hs14 c_m_0
  replace c_m_1 := cell_later hs14 c_m_1
  replace c_p_0 := cell_later hs14 c_p_0
  replace c_p_1 := cell_later hs14 c_p_1
  have c_v_0 : w14.cell? ⟨w13.heap.size, 0, none⟩ = some (.int .i64 (vn)) := (hb14.cell (by simp <;> omega)).trans (by go_simp)
  have c_v_1 : w14.cell? ⟨w13.heap.size, 1, none⟩ = some (.int .i64 (vd)) := (hb14.cell (by simp <;> omega)).trans (by go_simp)
  clear z_m
  have z_m := World.block_lt_of_cell? _ _ c_m_0
  clear z_p
  have z_p := World.block_lt_of_cell? _ _ c_p_0
  clear z_s
  have z_s := World.block_lt_of_cell? _ _ c_s_0
  have z_v := World.block_lt_of_cell? _ _ c_v_0
  clear z_x
  have z_x := World.block_lt_of_cell? _ _ c_x_0
  clear z_y
  have z_y := World.block_lt_of_cell? _ _ c_y_0
  clear z_z
  have z_z := World.block_lt_of_cell? _ _ c_z_0
  have hB14 := below_two hB13 hs14
  clear hB13 hs14 hb14
  rw [B3.out.1, B3.out.2.1, B3.out.2.2]
  go_wp2_with fail
  refine (mul_any _ _ _ _ _).mono ?_
  rintro e w15 ⟨rfl, hb15⟩
  have hs15 : Below w14.heap.size w14 w15 := Below.trans (by repeat (first | exact Below.refl _ _ | refine Below.alloc ?_ (by simp <;> omega) _)) (hb15.mono (by simp <;> omega))
  clear c_p_0
  clear c_p_1
  replace c_x_0 := cell_later hs15 c_x_0
  replace c_x_1 := cell_later hs15 c_x_1
  replace c_y_0 := cell_later hs15 c_y_0
  replace c_y_1 := cell_later hs15 c_y_1
  replace c_z_0 := cell_later hs15 c_z_0
  replace c_z_1 := cell_later hs15 c_z_1
  replace c_s_0 := cell_later hs15 c_s_0
  replace c_s_1 := cell_later hs15 c_s_1
  replace c_m_0 := cell_later hs15 c_m_0
  replace c_m_1 := cell_later hs15 c_m_1
  replace c_v_0 := cell_later hs15 c_v_0
  replace c_v_1 := cell_later hs15 c_v_1
  clear z_m
  have z_m := World.block_lt_of_cell? _ _ c_m_0
  clear z_s
  have z_s := World.block_lt_of_cell? _ _ c_s_0
  clear z_v
  have z_v := World.block_lt_of_cell? _ _ c_v_0
  clear z_x
  have z_x := World.block_lt_of_cell? _ _ c_x_0
  clear z_y
  have z_y := World.block_lt_of_cell? _ _ c_y_0
  clear z_z
  have z_z := World.block_lt_of_cell? _ _ c_z_0
  clear z_p
  have hB15 := below_two hB14 hs15
  clear hB14 hs15 hb15
  rw [D1.out.1, D1.out.2.1, D1.out.2.2]
  go_wp2_with fail
  refine (add_any _ _ _ _ _).mono ?_
  rintro e w16 ⟨rfl, hb16⟩
  have hs16 : Below w15.heap.size w15 w16 := Below.trans (by repeat (first | exact Below.refl _ _ | refine Below.alloc ?_ (by simp <;> omega) _)) (hb16.mono (by simp <;> omega))
  clear c_x_0
  clear c_x_1
  clear c_y_0
  clear c_y_1
  clear c_m_0
  clear c_m_1
  replace c_z_0 := cell_later hs16 c_z_0
  replace c_z_1 := cell_later hs16 c_z_1
  replace c_s_0 := cell_later hs16 c_s_0
  replace c_s_1 := cell_later hs16 c_s_1
  replace c_v_0 := cell_later hs16 c_v_0
  replace c_v_1 := cell_later hs16 c_v_1
  have c_w0_0 : w16.cell? ⟨w15.heap.size, 0, none⟩ = some (.int .i64 (wn)) := (hb16.cell (by simp <;> omega)).trans (by go_simp)
  have c_w0_1 : w16.cell? ⟨w15.heap.size, 1, none⟩ = some (.int .i64 (wd)) := (hb16.cell (by simp <;> omega)).trans (by go_simp)
  clear z_s
  have z_s := World.block_lt_of_cell? _ _ c_s_0
  clear z_v
  have z_v := World.block_lt_of_cell? _ _ c_v_0
  have z_w0 := World.block_lt_of_cell? _ _ c_w0_0
  clear z_z
  have z_z := World.block_lt_of_cell? _ _ c_z_0
  clear z_m
  clear z_x
  clear z_y
  have hB16 := below_two hB15 hs16
  clear hB15 hs16 hb16
  rw [D2.out.1, D2.out.2.1, D2.out.2.2]
  go_wp2_with fail
  refine (mul_any _ _ _ _ _).mono ?_
  rintro e w17 ⟨rfl, hb17⟩
  have hs17 : Below w16.heap.size w16 w17 := Below.trans (by repeat (first | exact Below.refl _ _ | refine Below.alloc ?_ (by simp <;> omega) _)) (hb17.mono (by simp <;> omega))
  clear c_v_0
  clear c_v_1
  clear c_w0_0
  clear c_w0_1
  replace c_z_0 := cell_later hs17 c_z_0
  replace c_z_1 := cell_later hs17 c_z_1
  replace c_s_0 := cell_later hs17 c_s_0
  replace c_s_1 := cell_later hs17 c_s_1
  have c_b_0 : w17.cell? ⟨w16.heap.size, 0, none⟩ = some (.int .i64 (bn)) := (hb17.cell (by simp <;> omega)).trans (by go_simp)
  have c_b_1 : w17.cell? ⟨w16.heap.size, 1, none⟩ = some (.int .i64 (bd)) := (hb17.cell (by simp <;> omega)).trans (by go_simp)
  have z_b := World.block_lt_of_cell? _ _ c_b_0
  clear z_s
  have z_s := World.block_lt_of_cell? _ _ c_s_0
  clear z_z
  have z_z := World.block_lt_of_cell? _ _ c_z_0
  clear z_v
  clear z_w0
  have hB17 := below_two hB16 hs17
  clear hB16 hs17 hb17
  rw [D3.out.1, D3.out.2.1, D3.out.2.2]
  clear HX HY HZ S1 S2 M1 M2 A1 A2 A3 B1 B2 B3 D1 D2 D3
  go_wp2
  all_goals first
    | (go_ret; exact ⟨rfl, (hB17.alloc hB17.size _)⟩)
    | (have i1 := HI.out; clear HI heq hne hself; go_ret; refine ⟨ret_bool ?_, (hB17.alloc hB17.size _)⟩; simp_all; done)
    | (exfalso; have i1 := HI.out; clear HI heq hne hself; simp_all)
end Go.Proofs.YtgndmaihhkhnpaaDoor
