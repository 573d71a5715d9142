/-
  PitchUp holds: the law's walk.
-/
import Derived.Test.YtoopchnncjfjoaaDoorPitI
import Derived.Test.YtoopchnncjfjoaaDoorPitRow
namespace Go.Proofs.YtoopchnncjfjoaaDoor
open Go.RowKit

set_option maxRecDepth 100000 in
set_option maxHeartbeats 4000000 in
theorem up_w (a1 a2 a3 b1 b2 b3 s b o t c p : Int) (w : World) (hR : Ready w) (HA : Hid (∀ w, Calls Tryd.prog 13 #[pt a1 a2 a3] w fun e w' => e = .returned (pt s b o) ∧ Below w.heap.size w w')) (HB : Hid (∀ w, Calls Tryd.prog 13 #[pt b1 b2 b3] w fun e w' => e = .returned (pt t c p) ∧ Below w.heap.size w w')) (x y nx ny : Int) (hx' : -x = nx) (hy' : -y = ny) (HP : Hid (Pit.right s b o = true)) (HQ : Hid (Pit.right t c p = true)) (H1 : Hid (Pit.lin t p - Pit.lin s o = x)) (H2 : Hid (Pit.num t c p - Pit.num s b o = y)) (H3 : Hid (Pit.lin s o - Pit.lin t p = nx)) (H4 : Hid (Pit.num s b o - Pit.num t c p = ny)) (HU : Hid (Pit.up s b o x y = some (t, c, p))) (HV : Hid (Pit.up t c p nx ny = some (s, b, o))) (HW : Hid (Pit.up s b o 0 0 = some (s, b, o))) (x0 : -200 ≤ x) (x1 : x ≤ 200) (y0 : -200 ≤ y) (y1 : y ≤ 200) :
    Calls Tryd.prog 6 #[pt a1 a2 a3, pt b1 b2 b3] w fun e w' => e = .returned (.bool true) ∧ Below w.heap.size w w' := by
  have hgP := guardP
  have hgI := guardI
  have heP := eql_pt
  have heI := eql_iv
  have hnP := neq_pt
  have hsP := eqP_self
  have hsI := eqI_self
  have hB0 : Below w.heap.size w w := Below.refl _ _
  go_enter Tryd.func6, Tryd.ntmps6
  go_wp2_with fail
  have hR' := hR.below ((hB0.alloc hB0.size (.cells #[.int .i64 a1, .int .i64 a2, .int .i64 a3] 23)).alloc (hB0.alloc hB0.size (.cells #[.int .i64 a1, .int .i64 a2, .int .i64 a3] 23)).size (.cells #[.int .i64 b1, .int .i64 b2, .int .i64 b3] 23))
  refine (awake_any _ hR').mono ?_
  rintro e w1 ⟨rfl, hb1⟩
  clear hR'
  have hs1 : Below w.heap.size w w1 := Below.trans (by repeat (first | exact Below.refl _ _ | refine Below.alloc ?_ (by simp <;> omega) _)) (hb1.mono (by simp <;> omega))
  have c_a_0 : w1.cell? ⟨w.heap.size, 0, none⟩ = some (.int .i64 a1) := (hb1.cell (by simp <;> omega)).trans (by go_simp)
  have c_a_1 : w1.cell? ⟨w.heap.size, 1, none⟩ = some (.int .i64 a2) := (hb1.cell (by simp <;> omega)).trans (by go_simp)
  have c_a_2 : w1.cell? ⟨w.heap.size, 2, none⟩ = some (.int .i64 a3) := (hb1.cell (by simp <;> omega)).trans (by go_simp)
  have c_b_0 : w1.cell? ⟨w.heap.size + 1, 0, none⟩ = some (.int .i64 b1) := (hb1.cell (by simp <;> omega)).trans (by go_simp)
  have c_b_1 : w1.cell? ⟨w.heap.size + 1, 1, none⟩ = some (.int .i64 b2) := (hb1.cell (by simp <;> omega)).trans (by go_simp)
  have c_b_2 : w1.cell? ⟨w.heap.size + 1, 2, none⟩ = some (.int .i64 b3) := (hb1.cell (by simp <;> omega)).trans (by go_simp)
  have z_a := World.block_lt_of_cell? _ _ c_a_0
  have z_b := World.block_lt_of_cell? _ _ c_b_0
  have hB1 := below_two hB0 hs1
  clear hB0 hs1 hb1
  go_wp2_with fail
  have hR' := hR.below hB1
  refine (HA.out _).mono ?_
  rintro e w2 ⟨rfl, hb2⟩
  clear hR'
  have hs2 := hb2
  clear c_a_0
  clear c_a_1
  clear c_a_2
  replace c_b_0 := cell_later hs2 c_b_0
  replace c_b_1 := cell_later hs2 c_b_1
  replace c_b_2 := cell_later hs2 c_b_2
  clear z_b
  have z_b := World.block_lt_of_cell? _ _ c_b_0
  clear z_a
  have hB2 := below_two hB1 hs2
  clear hB1 hs2
  go_wp2_with fail
  have hR' := hR.below (hB2.alloc hB2.size (.cells #[.int .i64 s, .int .i64 b, .int .i64 o] 23))
  refine (HB.out _).mono ?_
  rintro e w3 ⟨rfl, hb3⟩
  clear hR'
  have hs3 : Below w2.heap.size w2 w3 := Below.trans (by repeat (first | exact Below.refl _ _ | refine Below.alloc ?_ (by simp <;> omega) _)) (hb3.mono (by simp <;> omega))
  clear c_b_0
  clear c_b_1
  clear c_b_2
  have c_p_0 : w3.cell? ⟨w2.heap.size, 0, none⟩ = some (.int .i64 s) := (hb3.cell (by simp <;> omega)).trans (by go_simp)
  have c_p_1 : w3.cell? ⟨w2.heap.size, 1, none⟩ = some (.int .i64 b) := (hb3.cell (by simp <;> omega)).trans (by go_simp)
  have c_p_2 : w3.cell? ⟨w2.heap.size, 2, none⟩ = some (.int .i64 o) := (hb3.cell (by simp <;> omega)).trans (by go_simp)
  have z_p := World.block_lt_of_cell? _ _ c_p_0
  clear z_b
  have hB3 := below_two hB2 hs3
  clear hB2 hs3 hb3
  go_wp2_with fail
  have hR' := hR.below (hB3.alloc hB3.size (.cells #[.int .i64 t, .int .i64 c, .int .i64 p] 23))
  refine (between_any _ _ _ _ _ _ _ hR').mono ?_
  rintro e w4 ⟨rfl, hb4⟩
  clear hR'
  have hs4 : Below w3.heap.size w3 w4 := Below.trans (by repeat (first | exact Below.refl _ _ | refine Below.alloc ?_ (by simp <;> omega) _)) (hb4.mono (by simp <;> omega))
  replace c_p_0 := cell_later hs4 c_p_0
  replace c_p_1 := cell_later hs4 c_p_1
  replace c_p_2 := cell_later hs4 c_p_2
  have c_q_0 : w4.cell? ⟨w3.heap.size, 0, none⟩ = some (.int .i64 t) := (hb4.cell (by simp <;> omega)).trans (by go_simp)
  have c_q_1 : w4.cell? ⟨w3.heap.size, 1, none⟩ = some (.int .i64 c) := (hb4.cell (by simp <;> omega)).trans (by go_simp)
  have c_q_2 : w4.cell? ⟨w3.heap.size, 2, none⟩ = some (.int .i64 p) := (hb4.cell (by simp <;> omega)).trans (by go_simp)
  clear z_p
  have z_p := World.block_lt_of_cell? _ _ c_p_0
  have z_q := World.block_lt_of_cell? _ _ c_q_0
  have hB4 := below_two hB3 hs4
  clear hB3 hs4 hb4
  rw [HP.out, HQ.out]
  simp only [Bool.and_self, btS, btH, errP, if_true]
  rw [H1.out, H2.out]
  go_wp2_with fail
  have hR' := hR.below (hB4.alloc hB4.size (.cells #[.int .i64 x, .int .i64 y] 25))
  refine (between_any _ _ _ _ _ _ _ hR').mono ?_
  rintro e w5 ⟨rfl, hb5⟩
  clear hR'
  have hs5 : Below w4.heap.size w4 w5 := Below.trans (by repeat (first | exact Below.refl _ _ | refine Below.alloc ?_ (by simp <;> omega) _)) (hb5.mono (by simp <;> omega))
  replace c_p_0 := cell_later hs5 c_p_0
  replace c_p_1 := cell_later hs5 c_p_1
  replace c_p_2 := cell_later hs5 c_p_2
  replace c_q_0 := cell_later hs5 c_q_0
  replace c_q_1 := cell_later hs5 c_q_1
  replace c_q_2 := cell_later hs5 c_q_2
  have c_by_0 : w5.cell? ⟨w4.heap.size, 0, none⟩ = some (.int .i64 x) := (hb5.cell (by simp <;> omega)).trans (by go_simp)
  have c_by_1 : w5.cell? ⟨w4.heap.size, 1, none⟩ = some (.int .i64 y) := (hb5.cell (by simp <;> omega)).trans (by go_simp)
  have z_by := World.block_lt_of_cell? _ _ c_by_0
  clear z_p
  have z_p := World.block_lt_of_cell? _ _ c_p_0
  clear z_q
  have z_q := World.block_lt_of_cell? _ _ c_q_0
  have hB5 := below_two hB4 hs5
  clear hB4 hs5 hb5
  rw [HP.out, HQ.out]
  simp only [Bool.and_self, btS, btH, errP, if_true]
  rw [H3.out, H4.out]
  go_wp2_with fail
  have hR' := hR.below (hB5.alloc hB5.size (.cells #[.int .i64 nx, .int .i64 ny] 25))
  refine (up_any _ _ _ _ _ _ hR').mono ?_
  rintro e w6 ⟨rfl, hb6⟩
  clear hR'
  have hs6 : Below w5.heap.size w5 w6 := Below.trans (by repeat (first | exact Below.refl _ _ | refine Below.alloc ?_ (by simp <;> omega) _)) (hb6.mono (by simp <;> omega))
  replace c_p_0 := cell_later hs6 c_p_0
  replace c_p_1 := cell_later hs6 c_p_1
  replace c_p_2 := cell_later hs6 c_p_2
  replace c_q_0 := cell_later hs6 c_q_0
  replace c_q_1 := cell_later hs6 c_q_1
  replace c_q_2 := cell_later hs6 c_q_2
  replace c_by_0 := cell_later hs6 c_by_0
  replace c_by_1 := cell_later hs6 c_by_1
  have c_back_0 : w6.cell? ⟨w5.heap.size, 0, none⟩ = some (.int .i64 nx) := (hb6.cell (by simp <;> omega)).trans (by go_simp)
  have c_back_1 : w6.cell? ⟨w5.heap.size, 1, none⟩ = some (.int .i64 ny) := (hb6.cell (by simp <;> omega)).trans (by go_simp)
  have z_back := World.block_lt_of_cell? _ _ c_back_0
  clear z_by
  have z_by := World.block_lt_of_cell? _ _ c_by_0
  clear z_p
  have z_p := World.block_lt_of_cell? _ _ c_p_0
  clear z_q
  have z_q := World.block_lt_of_cell? _ _ c_q_0
  have hB6 := below_two hB5 hs6
  clear hB5 hs6 hb6
  rw [HU.out]
  simp only [upV]
  go_wp2_with fail
  have hR' := hR.below (hB6.alloc hB6.size (.cells #[.int .i64 t, .int .i64 c, .int .i64 p] 23))
  refine (up_any _ _ _ _ _ _ hR').mono ?_
  rintro e w7 ⟨rfl, hb7⟩
  clear hR'
  have hs7 : Below w6.heap.size w6 w7 := Below.trans (by repeat (first | exact Below.refl _ _ | refine Below.alloc ?_ (by simp <;> omega) _)) (hb7.mono (by simp <;> omega))
  replace c_p_0 := cell_later hs7 c_p_0
  replace c_p_1 := cell_later hs7 c_p_1
  replace c_p_2 := cell_later hs7 c_p_2
  replace c_q_0 := cell_later hs7 c_q_0
  replace c_q_1 := cell_later hs7 c_q_1
  replace c_q_2 := cell_later hs7 c_q_2
  replace c_by_0 := cell_later hs7 c_by_0
  replace c_by_1 := cell_later hs7 c_by_1
  replace c_back_0 := cell_later hs7 c_back_0
  replace c_back_1 := cell_later hs7 c_back_1
  have c_r_0 : w7.cell? ⟨w6.heap.size, 0, none⟩ = some (.int .i64 t) := (hb7.cell (by simp <;> omega)).trans (by go_simp)
  have c_r_1 : w7.cell? ⟨w6.heap.size, 1, none⟩ = some (.int .i64 c) := (hb7.cell (by simp <;> omega)).trans (by go_simp)
  have c_r_2 : w7.cell? ⟨w6.heap.size, 2, none⟩ = some (.int .i64 p) := (hb7.cell (by simp <;> omega)).trans (by go_simp)
  clear z_back
  have z_back := World.block_lt_of_cell? _ _ c_back_0
  clear z_by
  have z_by := World.block_lt_of_cell? _ _ c_by_0
  clear z_p
  have z_p := World.block_lt_of_cell? _ _ c_p_0
  clear z_q
  have z_q := World.block_lt_of_cell? _ _ c_q_0
  have z_r := World.block_lt_of_cell? _ _ c_r_0
  have hB7 := below_two hB6 hs7
  clear hB6 hs7 hb7
  rw [HV.out]
  simp only [upV]
  go_wp2_with fail
  have hR' := hR.below (hB7.alloc hB7.size (.cells #[.int .i64 s, .int .i64 b, .int .i64 o] 23))
  refine (up_any _ _ _ _ _ _ hR').mono ?_
  rintro e w8 ⟨rfl, hb8⟩
  clear hR'
  have hs8 : Below w7.heap.size w7 w8 := Below.trans (by repeat (first | exact Below.refl _ _ | refine Below.alloc ?_ (by simp <;> omega) _)) (hb8.mono (by simp <;> omega))
  replace c_p_0 := cell_later hs8 c_p_0
  replace c_p_1 := cell_later hs8 c_p_1
  replace c_p_2 := cell_later hs8 c_p_2
  replace c_q_0 := cell_later hs8 c_q_0
  replace c_q_1 := cell_later hs8 c_q_1
  replace c_q_2 := cell_later hs8 c_q_2
  replace c_by_0 := cell_later hs8 c_by_0
  replace c_by_1 := cell_later hs8 c_by_1
  replace c_back_0 := cell_later hs8 c_back_0
  replace c_back_1 := cell_later hs8 c_back_1
  replace c_r_0 := cell_later hs8 c_r_0
  replace c_r_1 := cell_later hs8 c_r_1
  replace c_r_2 := cell_later hs8 c_r_2
  have c_s_0 : w8.cell? ⟨w7.heap.size, 0, none⟩ = some (.int .i64 s) := (hb8.cell (by simp <;> omega)).trans (by go_simp)
  have c_s_1 : w8.cell? ⟨w7.heap.size, 1, none⟩ = some (.int .i64 b) := (hb8.cell (by simp <;> omega)).trans (by go_simp)
  have c_s_2 : w8.cell? ⟨w7.heap.size, 2, none⟩ = some (.int .i64 o) := (hb8.cell (by simp <;> omega)).trans (by go_simp)
  clear z_back
  have z_back := World.block_lt_of_cell? _ _ c_back_0
  clear z_by
  have z_by := World.block_lt_of_cell? _ _ c_by_0
  clear z_p
  have z_p := World.block_lt_of_cell? _ _ c_p_0
  clear z_q
  have z_q := World.block_lt_of_cell? _ _ c_q_0
  clear z_r
  have z_r := World.block_lt_of_cell? _ _ c_r_0
  have z_s := World.block_lt_of_cell? _ _ c_s_0
  have hB8 := below_two hB7 hs8
  clear hB7 hs8 hb8
  rw [HW.out]
  simp only [upV]
  go_wp2
  go_ret
  exact ⟨rfl, (hB8.alloc hB8.size (.cells #[.int .i64 s, .int .i64 b, .int .i64 o] 23))⟩

theorem pitchUp_calls (a1 a2 a3 b1 b2 b3 : Int) (h1 : Pit.I64 a1) (h2 : Pit.I64 a2) (h3 : Pit.I64 a3) (i1 : Pit.I64 b1) (i2 : Pit.I64 b2) (i3 : Pit.I64 b3) (w : World) (hR : Ready w) : LawHolds 6 #[pt a1 a2 a3, pt b1 b2 b3] w := by
  obtain ⟨s, b, o, hr, hA⟩ := pitch_fix a1 a2 a3 h1 h2 h3
  obtain ⟨t, c, p, hq, hB⟩ := pitch_fix b1 b2 b3 i1 i2 i3
  have l1 := lin_bounds hr
  have l2 := lin_bounds hq
  have n1 := hr.n0
  have n2 := hr.nM
  have n3 := hq.n0
  have n4 := hq.nM
  exact up_w a1 a2 a3 b1 b2 b3 s b o t c p w hR (Lib.hid hA) (Lib.hid hB) _ _ _ _ rfl rfl (Lib.hid (Pit.right_true hr)) (Lib.hid (Pit.right_true hq)) (Lib.hid rfl) (Lib.hid rfl) (Lib.hid (by omega)) (Lib.hid (by omega))
    (Lib.hid (Pit.up_complete hr hq (by omega) (by omega))) (Lib.hid (Pit.up_complete hq hr (by omega) (by omega))) (Lib.hid (Pit.up_complete hr hr (by omega) (by omega))) (by omega) (by omega) (by omega) (by omega)
end Go.Proofs.YtoopchnncjfjoaaDoor
