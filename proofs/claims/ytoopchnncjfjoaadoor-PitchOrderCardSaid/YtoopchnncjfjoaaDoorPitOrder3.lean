/-
  PitchOrder's walks where Compare answers 1.
-/
import Derived.Test.YtoopchnncjfjoaaDoorPitI
import Derived.Test.YtoopchnncjfjoaaDoorPitRow
namespace Go.Proofs.YtoopchnncjfjoaaDoor
open Go.RowKit

set_option maxRecDepth 100000 in
set_option maxHeartbeats 4000000 in
theorem order_ppp (a1 a2 a3 b1 b2 b3 c1 c2 c3 s b o t c p u d q m n : Int) (w : World) (hR : Ready w) (HA : Hid (∀ w, Calls Tryd.prog 13 #[pt a1 a2 a3] w fun e w' => e = .returned (pt s b o) ∧ Below w.heap.size w w')) (HB : Hid (∀ w, Calls Tryd.prog 13 #[pt b1 b2 b3] w fun e w' => e = .returned (pt t c p) ∧ Below w.heap.size w w')) (HC : Hid (∀ w, Calls Tryd.prog 13 #[pt c1 c2 c3] w fun e w' => e = .returned (pt u d q) ∧ Below w.heap.size w w')) (HP : Hid (Pit.right s b o = true)) (HQ : Hid (Pit.right t c p = true)) (HM : Hid (Pit.num s b o = m)) (HN : Hid (Pit.num t c p = n)) (H1 : Hid (Pit.cmpP (Pit.right s b o && Pit.right t c p) s b o t c p = 1)) (H2 : Hid (Pit.cmpP (Pit.right t c p && Pit.right u d q) t c p u d q = 1)) (H3 : Hid (Pit.cmpP (Pit.right s b o && Pit.right u d q) s b o u d q = 1)) (H4 : Hid (Pit.cmpP (Pit.right t c p && Pit.right s b o) t c p s b o = -1)) (hpq : eqP s b o t c p = false) (hmn : n ≤ m) :
    Calls Tryd.prog 8 #[pt a1 a2 a3, pt b1 b2 b3, pt c1 c2 c3] w fun e w' => e = .returned (.bool true) ∧ Below w.heap.size w w' := by
  have hgP := guardP
  have hgI := guardI
  have heP := eql_pt
  have heI := eql_iv
  have hnP := neq_pt
  have hsP := eqP_self
  have hsI := eqI_self
  have hB0 : Below w.heap.size w w := Below.refl _ _
  go_enter Tryd.func8, Tryd.ntmps8
  go_wp2_with fail
  have hR' := hR.below (((hB0.alloc hB0.size (.cells #[.int .i64 a1, .int .i64 a2, .int .i64 a3] 23)).alloc (hB0.alloc hB0.size (.cells #[.int .i64 a1, .int .i64 a2, .int .i64 a3] 23)).size (.cells #[.int .i64 b1, .int .i64 b2, .int .i64 b3] 23)).alloc ((hB0.alloc hB0.size (.cells #[.int .i64 a1, .int .i64 a2, .int .i64 a3] 23)).alloc (hB0.alloc hB0.size (.cells #[.int .i64 a1, .int .i64 a2, .int .i64 a3] 23)).size (.cells #[.int .i64 b1, .int .i64 b2, .int .i64 b3] 23)).size (.cells #[.int .i64 c1, .int .i64 c2, .int .i64 c3] 23))
  refine (awake_any _ hR').mono ?_
  rintro e w1 ⟨rfl, hb1⟩
  clear hR'
  have hs1 : Below w.heap.size w w1 := Below.trans (by repeat (first | exact Below.refl _ _ | refine Below.alloc ?_ (by simp <;> omega) _)) (hb1.mono (by simp <;> omega))
  have c_a_0 : w1.cell? ⟨w.heap.size, 0, none⟩ = some (.int .i64 a1) := (hb1.cell (by simp <;> omega)).trans (by go_simp)
  have c_a_1 : w1.cell? ⟨w.heap.size, 1, none⟩ = some (.int .i64 a2) := (hb1.cell (by simp <;> omega)).trans (by go_simp)
  have c_a_2 : w1.cell? ⟨w.heap.size, 2, none⟩ = some (.int .i64 a3) := (hb1.cell (by simp <;> omega)).trans (by go_simp)
  have c_b_0 : w1.cell? ⟨w.heap.size + 1, 0, none⟩ = some (.int .i64 b1) := (hb1.cell (by simp <;> omega)).trans (by go_simp)
  have c_b_1 : w1.cell? ⟨w.heap.size + 1, 1, none⟩ = some (.int .i64 b2) := (hb1.cell (by simp <;> omega)).trans (by go_simp)
  have c_b_2 : w1.cell? ⟨w.heap.size + 1, 2, none⟩ = some (.int .i64 b3) := (hb1.cell (by simp <;> omega)).trans (by go_simp)
  have c_c_0 : w1.cell? ⟨w.heap.size + 1 + 1, 0, none⟩ = some (.int .i64 c1) := (hb1.cell (by simp <;> omega)).trans (by go_simp)
  have c_c_1 : w1.cell? ⟨w.heap.size + 1 + 1, 1, none⟩ = some (.int .i64 c2) := (hb1.cell (by simp <;> omega)).trans (by go_simp)
  have c_c_2 : w1.cell? ⟨w.heap.size + 1 + 1, 2, none⟩ = some (.int .i64 c3) := (hb1.cell (by simp <;> omega)).trans (by go_simp)
  have z_a := World.block_lt_of_cell? _ _ c_a_0
  have z_b := World.block_lt_of_cell? _ _ c_b_0
  have z_c := World.block_lt_of_cell? _ _ c_c_0
  have hB1 := below_two hB0 hs1
  clear hB0 hs1 hb1
  go_wp2_with fail
  have hR' := hR.below hB1
  refine (HA.out _).mono ?_
  rintro e w2 ⟨rfl, hb2⟩
  clear hR'
  have hs2 := hb2
  clear c_a_0
  clear c_a_1
  clear c_a_2
  replace c_b_0 := cell_later hs2 c_b_0
  replace c_b_1 := cell_later hs2 c_b_1
  replace c_b_2 := cell_later hs2 c_b_2
  replace c_c_0 := cell_later hs2 c_c_0
  replace c_c_1 := cell_later hs2 c_c_1
  replace c_c_2 := cell_later hs2 c_c_2
  clear z_b
  have z_b := World.block_lt_of_cell? _ _ c_b_0
  clear z_c
  have z_c := World.block_lt_of_cell? _ _ c_c_0
  clear z_a
  have hB2 := below_two hB1 hs2
  clear hB1 hs2
  go_wp2_with fail
  have hR' := hR.below (hB2.alloc hB2.size (.cells #[.int .i64 s, .int .i64 b, .int .i64 o] 23))
  refine (HB.out _).mono ?_
  rintro e w3 ⟨rfl, hb3⟩
  clear hR'
  have hs3 : Below w2.heap.size w2 w3 := Below.trans (by repeat (first | exact Below.refl _ _ | refine Below.alloc ?_ (by simp <;> omega) _)) (hb3.mono (by simp <;> omega))
  clear c_b_0
  clear c_b_1
  clear c_b_2
  replace c_c_0 := cell_later hs3 c_c_0
  replace c_c_1 := cell_later hs3 c_c_1
  replace c_c_2 := cell_later hs3 c_c_2
  have c_p_0 : w3.cell? ⟨w2.heap.size, 0, none⟩ = some (.int .i64 s) := (hb3.cell (by simp <;> omega)).trans (by go_simp)
  have c_p_1 : w3.cell? ⟨w2.heap.size, 1, none⟩ = some (.int .i64 b) := (hb3.cell (by simp <;> omega)).trans (by go_simp)
  have c_p_2 : w3.cell? ⟨w2.heap.size, 2, none⟩ = some (.int .i64 o) := (hb3.cell (by simp <;> omega)).trans (by go_simp)
  clear z_c
  have z_c := World.block_lt_of_cell? _ _ c_c_0
  have z_p := World.block_lt_of_cell? _ _ c_p_0
  clear z_b
  have hB3 := below_two hB2 hs3
  clear hB2 hs3 hb3
  go_wp2_with fail
  have hR' := hR.below (hB3.alloc hB3.size (.cells #[.int .i64 t, .int .i64 c, .int .i64 p] 23))
  refine (HC.out _).mono ?_
  rintro e w4 ⟨rfl, hb4⟩
  clear hR'
  have hs4 : Below w3.heap.size w3 w4 := Below.trans (by repeat (first | exact Below.refl _ _ | refine Below.alloc ?_ (by simp <;> omega) _)) (hb4.mono (by simp <;> omega))
  clear c_c_0
  clear c_c_1
  clear c_c_2
  replace c_p_0 := cell_later hs4 c_p_0
  replace c_p_1 := cell_later hs4 c_p_1
  replace c_p_2 := cell_later hs4 c_p_2
  have c_q_0 : w4.cell? ⟨w3.heap.size, 0, none⟩ = some (.int .i64 t) := (hb4.cell (by simp <;> omega)).trans (by go_simp)
  have c_q_1 : w4.cell? ⟨w3.heap.size, 1, none⟩ = some (.int .i64 c) := (hb4.cell (by simp <;> omega)).trans (by go_simp)
  have c_q_2 : w4.cell? ⟨w3.heap.size, 2, none⟩ = some (.int .i64 p) := (hb4.cell (by simp <;> omega)).trans (by go_simp)
  clear z_p
  have z_p := World.block_lt_of_cell? _ _ c_p_0
  have z_q := World.block_lt_of_cell? _ _ c_q_0
  clear z_c
  have hB4 := below_two hB3 hs4
  clear hB3 hs4 hb4
  go_wp2_with fail
  have hR' := hR.below (hB4.alloc hB4.size (.cells #[.int .i64 u, .int .i64 d, .int .i64 q] 23))
  refine (compare_any _ _ _ _ _ _ _ hR').mono ?_
  rintro e w5 ⟨rfl, hb5⟩
  clear hR'
  have hs5 : Below w4.heap.size w4 w5 := Below.trans (by repeat (first | exact Below.refl _ _ | refine Below.alloc ?_ (by simp <;> omega) _)) (hb5.mono (by simp <;> omega))
  replace c_p_0 := cell_later hs5 c_p_0
  replace c_p_1 := cell_later hs5 c_p_1
  replace c_p_2 := cell_later hs5 c_p_2
  replace c_q_0 := cell_later hs5 c_q_0
  replace c_q_1 := cell_later hs5 c_q_1
  replace c_q_2 := cell_later hs5 c_q_2
  have c_r_0 : w5.cell? ⟨w4.heap.size, 0, none⟩ = some (.int .i64 u) := (hb5.cell (by simp <;> omega)).trans (by go_simp)
  have c_r_1 : w5.cell? ⟨w4.heap.size, 1, none⟩ = some (.int .i64 d) := (hb5.cell (by simp <;> omega)).trans (by go_simp)
  have c_r_2 : w5.cell? ⟨w4.heap.size, 2, none⟩ = some (.int .i64 q) := (hb5.cell (by simp <;> omega)).trans (by go_simp)
  clear z_p
  have z_p := World.block_lt_of_cell? _ _ c_p_0
  clear z_q
  have z_q := World.block_lt_of_cell? _ _ c_q_0
  have z_r := World.block_lt_of_cell? _ _ c_r_0
  have hB5 := below_two hB4 hs5
  clear hB4 hs5 hb5
  rw [H1.out]
  go_wp2_with fail
  have hR' := hR.below hB5
  refine (compare_any _ _ _ _ _ _ _ hR').mono ?_
  rintro e w6 ⟨rfl, hb6⟩
  clear hR'
  have hs6 := hb6
  replace c_p_0 := cell_later hs6 c_p_0
  replace c_p_1 := cell_later hs6 c_p_1
  replace c_p_2 := cell_later hs6 c_p_2
  replace c_q_0 := cell_later hs6 c_q_0
  replace c_q_1 := cell_later hs6 c_q_1
  replace c_q_2 := cell_later hs6 c_q_2
  replace c_r_0 := cell_later hs6 c_r_0
  replace c_r_1 := cell_later hs6 c_r_1
  replace c_r_2 := cell_later hs6 c_r_2
  clear z_p
  have z_p := World.block_lt_of_cell? _ _ c_p_0
  clear z_q
  have z_q := World.block_lt_of_cell? _ _ c_q_0
  clear z_r
  have z_r := World.block_lt_of_cell? _ _ c_r_0
  have hB6 := below_two hB5 hs6
  clear hB5 hs6
  rw [H2.out]
  go_wp2_with fail
  have hR' := hR.below hB6
  refine (compare_any _ _ _ _ _ _ _ hR').mono ?_
  rintro e w7 ⟨rfl, hb7⟩
  clear hR'
  have hs7 := hb7
  clear c_r_0
  clear c_r_1
  clear c_r_2
  replace c_p_0 := cell_later hs7 c_p_0
  replace c_p_1 := cell_later hs7 c_p_1
  replace c_p_2 := cell_later hs7 c_p_2
  replace c_q_0 := cell_later hs7 c_q_0
  replace c_q_1 := cell_later hs7 c_q_1
  replace c_q_2 := cell_later hs7 c_q_2
  clear z_p
  have z_p := World.block_lt_of_cell? _ _ c_p_0
  clear z_q
  have z_q := World.block_lt_of_cell? _ _ c_q_0
  clear z_r
  have hB7 := below_two hB6 hs7
  clear hB6 hs7
  rw [H3.out]
  go_wp2_with fail
  have hR' := hR.below hB7
  refine (numberE _ _ _ _ hR').mono ?_
  rintro e w8 ⟨rfl, hb8⟩
  clear hR'
  have hs8 := hb8
  replace c_p_0 := cell_later hs8 c_p_0
  replace c_p_1 := cell_later hs8 c_p_1
  replace c_p_2 := cell_later hs8 c_p_2
  replace c_q_0 := cell_later hs8 c_q_0
  replace c_q_1 := cell_later hs8 c_q_1
  replace c_q_2 := cell_later hs8 c_q_2
  clear z_p
  have z_p := World.block_lt_of_cell? _ _ c_p_0
  clear z_q
  have z_q := World.block_lt_of_cell? _ _ c_q_0
  have hB8 := below_two hB7 hs8
  clear hB7 hs8
  rw [HP.out, HM.out]
  simp only [onlyR, errP, if_true]
  go_wp2_with fail
  have hR' := hR.below hB8
  refine (numberE _ _ _ _ hR').mono ?_
  rintro e w9 ⟨rfl, hb9⟩
  clear hR'
  have hs9 := hb9
  replace c_p_0 := cell_later hs9 c_p_0
  replace c_p_1 := cell_later hs9 c_p_1
  replace c_p_2 := cell_later hs9 c_p_2
  replace c_q_0 := cell_later hs9 c_q_0
  replace c_q_1 := cell_later hs9 c_q_1
  replace c_q_2 := cell_later hs9 c_q_2
  clear z_p
  have z_p := World.block_lt_of_cell? _ _ c_p_0
  clear z_q
  have z_q := World.block_lt_of_cell? _ _ c_q_0
  have hB9 := below_two hB8 hs9
  clear hB8 hs9
  rw [HQ.out, HN.out]
  simp only [onlyR, errP, if_true]
  go_wp2_with fail
  have hR' := hR.below hB9
  refine (compare_any _ _ _ _ _ _ _ hR').mono ?_
  rintro e w10 ⟨rfl, hb10⟩
  clear hR'
  have hs10 := hb10
  replace c_p_0 := cell_later hs10 c_p_0
  replace c_p_1 := cell_later hs10 c_p_1
  replace c_p_2 := cell_later hs10 c_p_2
  replace c_q_0 := cell_later hs10 c_q_0
  replace c_q_1 := cell_later hs10 c_q_1
  replace c_q_2 := cell_later hs10 c_q_2
  clear z_p
  have z_p := World.block_lt_of_cell? _ _ c_p_0
  clear z_q
  have z_q := World.block_lt_of_cell? _ _ c_q_0
  have hB10 := below_two hB9 hs10
  clear hB9 hs10
  rw [H4.out]
  by_cases hmn2 : m = n
  · subst hmn2
    go_wp2
    go_ret
    exact ⟨rfl, hB10⟩
  · have hmn3 : (m == n) = false := by simp [hmn2]
    have hmn4 : ¬ m < n := by omega
    go_wp2
    go_ret
    exact ⟨ret_bool (by rw [decide_eq_false (by omega)]; rfl), hB10⟩

set_option maxRecDepth 100000 in
set_option maxHeartbeats 4000000 in
theorem order_pzp (a1 a2 a3 b1 b2 b3 c1 c2 c3 s b o t c p u d q m n : Int) (w : World) (hR : Ready w) (HA : Hid (∀ w, Calls Tryd.prog 13 #[pt a1 a2 a3] w fun e w' => e = .returned (pt s b o) ∧ Below w.heap.size w w')) (HB : Hid (∀ w, Calls Tryd.prog 13 #[pt b1 b2 b3] w fun e w' => e = .returned (pt t c p) ∧ Below w.heap.size w w')) (HC : Hid (∀ w, Calls Tryd.prog 13 #[pt c1 c2 c3] w fun e w' => e = .returned (pt u d q) ∧ Below w.heap.size w w')) (HP : Hid (Pit.right s b o = true)) (HQ : Hid (Pit.right t c p = true)) (HM : Hid (Pit.num s b o = m)) (HN : Hid (Pit.num t c p = n)) (H1 : Hid (Pit.cmpP (Pit.right s b o && Pit.right t c p) s b o t c p = 1)) (H2 : Hid (Pit.cmpP (Pit.right t c p && Pit.right u d q) t c p u d q = 0)) (H3 : Hid (Pit.cmpP (Pit.right s b o && Pit.right u d q) s b o u d q = 1)) (H4 : Hid (Pit.cmpP (Pit.right t c p && Pit.right s b o) t c p s b o = -1)) (hpq : eqP s b o t c p = false) (hmn : n ≤ m) :
    Calls Tryd.prog 8 #[pt a1 a2 a3, pt b1 b2 b3, pt c1 c2 c3] w fun e w' => e = .returned (.bool true) ∧ Below w.heap.size w w' := by
  have hgP := guardP
  have hgI := guardI
  have heP := eql_pt
  have heI := eql_iv
  have hnP := neq_pt
  have hsP := eqP_self
  have hsI := eqI_self
  have hB0 : Below w.heap.size w w := Below.refl _ _
  go_enter Tryd.func8, Tryd.ntmps8
  go_wp2_with fail
  have hR' := hR.below (((hB0.alloc hB0.size (.cells #[.int .i64 a1, .int .i64 a2, .int .i64 a3] 23)).alloc (hB0.alloc hB0.size (.cells #[.int .i64 a1, .int .i64 a2, .int .i64 a3] 23)).size (.cells #[.int .i64 b1, .int .i64 b2, .int .i64 b3] 23)).alloc ((hB0.alloc hB0.size (.cells #[.int .i64 a1, .int .i64 a2, .int .i64 a3] 23)).alloc (hB0.alloc hB0.size (.cells #[.int .i64 a1, .int .i64 a2, .int .i64 a3] 23)).size (.cells #[.int .i64 b1, .int .i64 b2, .int .i64 b3] 23)).size (.cells #[.int .i64 c1, .int .i64 c2, .int .i64 c3] 23))
  refine (awake_any _ hR').mono ?_
  rintro e w1 ⟨rfl, hb1⟩
  clear hR'
  have hs1 : Below w.heap.size w w1 := Below.trans (by repeat (first | exact Below.refl _ _ | refine Below.alloc ?_ (by simp <;> omega) _)) (hb1.mono (by simp <;> omega))
  have c_a_0 : w1.cell? ⟨w.heap.size, 0, none⟩ = some (.int .i64 a1) := (hb1.cell (by simp <;> omega)).trans (by go_simp)
  have c_a_1 : w1.cell? ⟨w.heap.size, 1, none⟩ = some (.int .i64 a2) := (hb1.cell (by simp <;> omega)).trans (by go_simp)
  have c_a_2 : w1.cell? ⟨w.heap.size, 2, none⟩ = some (.int .i64 a3) := (hb1.cell (by simp <;> omega)).trans (by go_simp)
  have c_b_0 : w1.cell? ⟨w.heap.size + 1, 0, none⟩ = some (.int .i64 b1) := (hb1.cell (by simp <;> omega)).trans (by go_simp)
  have c_b_1 : w1.cell? ⟨w.heap.size + 1, 1, none⟩ = some (.int .i64 b2) := (hb1.cell (by simp <;> omega)).trans (by go_simp)
  have c_b_2 : w1.cell? ⟨w.heap.size + 1, 2, none⟩ = some (.int .i64 b3) := (hb1.cell (by simp <;> omega)).trans (by go_simp)
  have c_c_0 : w1.cell? ⟨w.heap.size + 1 + 1, 0, none⟩ = some (.int .i64 c1) := (hb1.cell (by simp <;> omega)).trans (by go_simp)
  have c_c_1 : w1.cell? ⟨w.heap.size + 1 + 1, 1, none⟩ = some (.int .i64 c2) := (hb1.cell (by simp <;> omega)).trans (by go_simp)
  have c_c_2 : w1.cell? ⟨w.heap.size + 1 + 1, 2, none⟩ = some (.int .i64 c3) := (hb1.cell (by simp <;> omega)).trans (by go_simp)
  have z_a := World.block_lt_of_cell? _ _ c_a_0
  have z_b := World.block_lt_of_cell? _ _ c_b_0
  have z_c := World.block_lt_of_cell? _ _ c_c_0
  have hB1 := below_two hB0 hs1
  clear hB0 hs1 hb1
  go_wp2_with fail
  have hR' := hR.below hB1
  refine (HA.out _).mono ?_
  rintro e w2 ⟨rfl, hb2⟩
  clear hR'
  have hs2 := hb2
  clear c_a_0
  clear c_a_1
  clear c_a_2
  replace c_b_0 := cell_later hs2 c_b_0
  replace c_b_1 := cell_later hs2 c_b_1
  replace c_b_2 := cell_later hs2 c_b_2
  replace c_c_0 := cell_later hs2 c_c_0
  replace c_c_1 := cell_later hs2 c_c_1
  replace c_c_2 := cell_later hs2 c_c_2
  clear z_b
  have z_b := World.block_lt_of_cell? _ _ c_b_0
  clear z_c
  have z_c := World.block_lt_of_cell? _ _ c_c_0
  clear z_a
  have hB2 := below_two hB1 hs2
  clear hB1 hs2
  go_wp2_with fail
  have hR' := hR.below (hB2.alloc hB2.size (.cells #[.int .i64 s, .int .i64 b, .int .i64 o] 23))
  refine (HB.out _).mono ?_
  rintro e w3 ⟨rfl, hb3⟩
  clear hR'
  have hs3 : Below w2.heap.size w2 w3 := Below.trans (by repeat (first | exact Below.refl _ _ | refine Below.alloc ?_ (by simp <;> omega) _)) (hb3.mono (by simp <;> omega))
  clear c_b_0
  clear c_b_1
  clear c_b_2
  replace c_c_0 := cell_later hs3 c_c_0
  replace c_c_1 := cell_later hs3 c_c_1
  replace c_c_2 := cell_later hs3 c_c_2
  have c_p_0 : w3.cell? ⟨w2.heap.size, 0, none⟩ = some (.int .i64 s) := (hb3.cell (by simp <;> omega)).trans (by go_simp)
  have c_p_1 : w3.cell? ⟨w2.heap.size, 1, none⟩ = some (.int .i64 b) := (hb3.cell (by simp <;> omega)).trans (by go_simp)
  have c_p_2 : w3.cell? ⟨w2.heap.size, 2, none⟩ = some (.int .i64 o) := (hb3.cell (by simp <;> omega)).trans (by go_simp)
  clear z_c
  have z_c := World.block_lt_of_cell? _ _ c_c_0
  have z_p := World.block_lt_of_cell? _ _ c_p_0
  clear z_b
  have hB3 := below_two hB2 hs3
  clear hB2 hs3 hb3
  go_wp2_with fail
  have hR' := hR.below (hB3.alloc hB3.size (.cells #[.int .i64 t, .int .i64 c, .int .i64 p] 23))
  refine (HC.out _).mono ?_
  rintro e w4 ⟨rfl, hb4⟩
  clear hR'
  have hs4 : Below w3.heap.size w3 w4 := Below.trans (by repeat (first | exact Below.refl _ _ | refine Below.alloc ?_ (by simp <;> omega) _)) (hb4.mono (by simp <;> omega))
  clear c_c_0
  clear c_c_1
  clear c_c_2
  replace c_p_0 := cell_later hs4 c_p_0
  replace c_p_1 := cell_later hs4 c_p_1
  replace c_p_2 := cell_later hs4 c_p_2
  have c_q_0 : w4.cell? ⟨w3.heap.size, 0, none⟩ = some (.int .i64 t) := (hb4.cell (by simp <;> omega)).trans (by go_simp)
  have c_q_1 : w4.cell? ⟨w3.heap.size, 1, none⟩ = some (.int .i64 c) := (hb4.cell (by simp <;> omega)).trans (by go_simp)
  have c_q_2 : w4.cell? ⟨w3.heap.size, 2, none⟩ = some (.int .i64 p) := (hb4.cell (by simp <;> omega)).trans (by go_simp)
  clear z_p
  have z_p := World.block_lt_of_cell? _ _ c_p_0
  have z_q := World.block_lt_of_cell? _ _ c_q_0
  clear z_c
  have hB4 := below_two hB3 hs4
  clear hB3 hs4 hb4
  go_wp2_with fail
  have hR' := hR.below (hB4.alloc hB4.size (.cells #[.int .i64 u, .int .i64 d, .int .i64 q] 23))
  refine (compare_any _ _ _ _ _ _ _ hR').mono ?_
  rintro e w5 ⟨rfl, hb5⟩
  clear hR'
  have hs5 : Below w4.heap.size w4 w5 := Below.trans (by repeat (first | exact Below.refl _ _ | refine Below.alloc ?_ (by simp <;> omega) _)) (hb5.mono (by simp <;> omega))
  replace c_p_0 := cell_later hs5 c_p_0
  replace c_p_1 := cell_later hs5 c_p_1
  replace c_p_2 := cell_later hs5 c_p_2
  replace c_q_0 := cell_later hs5 c_q_0
  replace c_q_1 := cell_later hs5 c_q_1
  replace c_q_2 := cell_later hs5 c_q_2
  have c_r_0 : w5.cell? ⟨w4.heap.size, 0, none⟩ = some (.int .i64 u) := (hb5.cell (by simp <;> omega)).trans (by go_simp)
  have c_r_1 : w5.cell? ⟨w4.heap.size, 1, none⟩ = some (.int .i64 d) := (hb5.cell (by simp <;> omega)).trans (by go_simp)
  have c_r_2 : w5.cell? ⟨w4.heap.size, 2, none⟩ = some (.int .i64 q) := (hb5.cell (by simp <;> omega)).trans (by go_simp)
  clear z_p
  have z_p := World.block_lt_of_cell? _ _ c_p_0
  clear z_q
  have z_q := World.block_lt_of_cell? _ _ c_q_0
  have z_r := World.block_lt_of_cell? _ _ c_r_0
  have hB5 := below_two hB4 hs5
  clear hB4 hs5 hb5
  rw [H1.out]
  go_wp2_with fail
  have hR' := hR.below hB5
  refine (compare_any _ _ _ _ _ _ _ hR').mono ?_
  rintro e w6 ⟨rfl, hb6⟩
  clear hR'
  have hs6 := hb6
  replace c_p_0 := cell_later hs6 c_p_0
  replace c_p_1 := cell_later hs6 c_p_1
  replace c_p_2 := cell_later hs6 c_p_2
  replace c_q_0 := cell_later hs6 c_q_0
  replace c_q_1 := cell_later hs6 c_q_1
  replace c_q_2 := cell_later hs6 c_q_2
  replace c_r_0 := cell_later hs6 c_r_0
  replace c_r_1 := cell_later hs6 c_r_1
  replace c_r_2 := cell_later hs6 c_r_2
  clear z_p
  have z_p := World.block_lt_of_cell? _ _ c_p_0
  clear z_q
  have z_q := World.block_lt_of_cell? _ _ c_q_0
  clear z_r
  have z_r := World.block_lt_of_cell? _ _ c_r_0
  have hB6 := below_two hB5 hs6
  clear hB5 hs6
  rw [H2.out]
  go_wp2_with fail
  have hR' := hR.below hB6
  refine (compare_any _ _ _ _ _ _ _ hR').mono ?_
  rintro e w7 ⟨rfl, hb7⟩
  clear hR'
  have hs7 := hb7
  clear c_r_0
  clear c_r_1
  clear c_r_2
  replace c_p_0 := cell_later hs7 c_p_0
  replace c_p_1 := cell_later hs7 c_p_1
  replace c_p_2 := cell_later hs7 c_p_2
  replace c_q_0 := cell_later hs7 c_q_0
  replace c_q_1 := cell_later hs7 c_q_1
  replace c_q_2 := cell_later hs7 c_q_2
  clear z_p
  have z_p := World.block_lt_of_cell? _ _ c_p_0
  clear z_q
  have z_q := World.block_lt_of_cell? _ _ c_q_0
  clear z_r
  have hB7 := below_two hB6 hs7
  clear hB6 hs7
  rw [H3.out]
  go_wp2_with fail
  have hR' := hR.below hB7
  refine (numberE _ _ _ _ hR').mono ?_
  rintro e w8 ⟨rfl, hb8⟩
  clear hR'
  have hs8 := hb8
  replace c_p_0 := cell_later hs8 c_p_0
  replace c_p_1 := cell_later hs8 c_p_1
  replace c_p_2 := cell_later hs8 c_p_2
  replace c_q_0 := cell_later hs8 c_q_0
  replace c_q_1 := cell_later hs8 c_q_1
  replace c_q_2 := cell_later hs8 c_q_2
  clear z_p
  have z_p := World.block_lt_of_cell? _ _ c_p_0
  clear z_q
  have z_q := World.block_lt_of_cell? _ _ c_q_0
  have hB8 := below_two hB7 hs8
  clear hB7 hs8
  rw [HP.out, HM.out]
  simp only [onlyR, errP, if_true]
  go_wp2_with fail
  have hR' := hR.below hB8
  refine (numberE _ _ _ _ hR').mono ?_
  rintro e w9 ⟨rfl, hb9⟩
  clear hR'
  have hs9 := hb9
  replace c_p_0 := cell_later hs9 c_p_0
  replace c_p_1 := cell_later hs9 c_p_1
  replace c_p_2 := cell_later hs9 c_p_2
  replace c_q_0 := cell_later hs9 c_q_0
  replace c_q_1 := cell_later hs9 c_q_1
  replace c_q_2 := cell_later hs9 c_q_2
  clear z_p
  have z_p := World.block_lt_of_cell? _ _ c_p_0
  clear z_q
  have z_q := World.block_lt_of_cell? _ _ c_q_0
  have hB9 := below_two hB8 hs9
  clear hB8 hs9
  rw [HQ.out, HN.out]
  simp only [onlyR, errP, if_true]
  go_wp2_with fail
  have hR' := hR.below hB9
  refine (compare_any _ _ _ _ _ _ _ hR').mono ?_
  rintro e w10 ⟨rfl, hb10⟩
  clear hR'
  have hs10 := hb10
  replace c_p_0 := cell_later hs10 c_p_0
  replace c_p_1 := cell_later hs10 c_p_1
  replace c_p_2 := cell_later hs10 c_p_2
  replace c_q_0 := cell_later hs10 c_q_0
  replace c_q_1 := cell_later hs10 c_q_1
  replace c_q_2 := cell_later hs10 c_q_2
  clear z_p
  have z_p := World.block_lt_of_cell? _ _ c_p_0
  clear z_q
  have z_q := World.block_lt_of_cell? _ _ c_q_0
  have hB10 := below_two hB9 hs10
  clear hB9 hs10
  rw [H4.out]
  by_cases hmn2 : m = n
  · subst hmn2
    go_wp2
    go_ret
    exact ⟨rfl, hB10⟩
  · have hmn3 : (m == n) = false := by simp [hmn2]
    have hmn4 : ¬ m < n := by omega
    go_wp2
    go_ret
    exact ⟨ret_bool (by rw [decide_eq_false (by omega)]; rfl), hB10⟩

set_option maxRecDepth 100000 in
set_option maxHeartbeats 4000000 in
theorem order_pnn (a1 a2 a3 b1 b2 b3 c1 c2 c3 s b o t c p u d q m n : Int) (w : World) (hR : Ready w) (HA : Hid (∀ w, Calls Tryd.prog 13 #[pt a1 a2 a3] w fun e w' => e = .returned (pt s b o) ∧ Below w.heap.size w w')) (HB : Hid (∀ w, Calls Tryd.prog 13 #[pt b1 b2 b3] w fun e w' => e = .returned (pt t c p) ∧ Below w.heap.size w w')) (HC : Hid (∀ w, Calls Tryd.prog 13 #[pt c1 c2 c3] w fun e w' => e = .returned (pt u d q) ∧ Below w.heap.size w w')) (HP : Hid (Pit.right s b o = true)) (HQ : Hid (Pit.right t c p = true)) (HM : Hid (Pit.num s b o = m)) (HN : Hid (Pit.num t c p = n)) (H1 : Hid (Pit.cmpP (Pit.right s b o && Pit.right t c p) s b o t c p = 1)) (H2 : Hid (Pit.cmpP (Pit.right t c p && Pit.right u d q) t c p u d q = -1)) (H3 : Hid (Pit.cmpP (Pit.right s b o && Pit.right u d q) s b o u d q = -1)) (H4 : Hid (Pit.cmpP (Pit.right t c p && Pit.right s b o) t c p s b o = -1)) (hpq : eqP s b o t c p = false) (hmn : n ≤ m) :
    Calls Tryd.prog 8 #[pt a1 a2 a3, pt b1 b2 b3, pt c1 c2 c3] w fun e w' => e = .returned (.bool true) ∧ Below w.heap.size w w' := by
  have hgP := guardP
  have hgI := guardI
  have heP := eql_pt
  have heI := eql_iv
  have hnP := neq_pt
  have hsP := eqP_self
  have hsI := eqI_self
  have hB0 : Below w.heap.size w w := Below.refl _ _
  go_enter Tryd.func8, Tryd.ntmps8
  go_wp2_with fail
  have hR' := hR.below (((hB0.alloc hB0.size (.cells #[.int .i64 a1, .int .i64 a2, .int .i64 a3] 23)).alloc (hB0.alloc hB0.size (.cells #[.int .i64 a1, .int .i64 a2, .int .i64 a3] 23)).size (.cells #[.int .i64 b1, .int .i64 b2, .int .i64 b3] 23)).alloc ((hB0.alloc hB0.size (.cells #[.int .i64 a1, .int .i64 a2, .int .i64 a3] 23)).alloc (hB0.alloc hB0.size (.cells #[.int .i64 a1, .int .i64 a2, .int .i64 a3] 23)).size (.cells #[.int .i64 b1, .int .i64 b2, .int .i64 b3] 23)).size (.cells #[.int .i64 c1, .int .i64 c2, .int .i64 c3] 23))
  refine (awake_any _ hR').mono ?_
  rintro e w1 ⟨rfl, hb1⟩
  clear hR'
  have hs1 : Below w.heap.size w w1 := Below.trans (by repeat (first | exact Below.refl _ _ | refine Below.alloc ?_ (by simp <;> omega) _)) (hb1.mono (by simp <;> omega))
  have c_a_0 : w1.cell? ⟨w.heap.size, 0, none⟩ = some (.int .i64 a1) := (hb1.cell (by simp <;> omega)).trans (by go_simp)
  have c_a_1 : w1.cell? ⟨w.heap.size, 1, none⟩ = some (.int .i64 a2) := (hb1.cell (by simp <;> omega)).trans (by go_simp)
  have c_a_2 : w1.cell? ⟨w.heap.size, 2, none⟩ = some (.int .i64 a3) := (hb1.cell (by simp <;> omega)).trans (by go_simp)
  have c_b_0 : w1.cell? ⟨w.heap.size + 1, 0, none⟩ = some (.int .i64 b1) := (hb1.cell (by simp <;> omega)).trans (by go_simp)
  have c_b_1 : w1.cell? ⟨w.heap.size + 1, 1, none⟩ = some (.int .i64 b2) := (hb1.cell (by simp <;> omega)).trans (by go_simp)
  have c_b_2 : w1.cell? ⟨w.heap.size + 1, 2, none⟩ = some (.int .i64 b3) := (hb1.cell (by simp <;> omega)).trans (by go_simp)
  have c_c_0 : w1.cell? ⟨w.heap.size + 1 + 1, 0, none⟩ = some (.int .i64 c1) := (hb1.cell (by simp <;> omega)).trans (by go_simp)
  have c_c_1 : w1.cell? ⟨w.heap.size + 1 + 1, 1, none⟩ = some (.int .i64 c2) := (hb1.cell (by simp <;> omega)).trans (by go_simp)
  have c_c_2 : w1.cell? ⟨w.heap.size + 1 + 1, 2, none⟩ = some (.int .i64 c3) := (hb1.cell (by simp <;> omega)).trans (by go_simp)
  have z_a := World.block_lt_of_cell? _ _ c_a_0
  have z_b := World.block_lt_of_cell? _ _ c_b_0
  have z_c := World.block_lt_of_cell? _ _ c_c_0
  have hB1 := below_two hB0 hs1
  clear hB0 hs1 hb1
  go_wp2_with fail
  have hR' := hR.below hB1
  refine (HA.out _).mono ?_
  rintro e w2 ⟨rfl, hb2⟩
  clear hR'
  have hs2 := hb2
  clear c_a_0
  clear c_a_1
  clear c_a_2
  replace c_b_0 := cell_later hs2 c_b_0
  replace c_b_1 := cell_later hs2 c_b_1
  replace c_b_2 := cell_later hs2 c_b_2
  replace c_c_0 := cell_later hs2 c_c_0
  replace c_c_1 := cell_later hs2 c_c_1
  replace c_c_2 := cell_later hs2 c_c_2
  clear z_b
  have z_b := World.block_lt_of_cell? _ _ c_b_0
  clear z_c
  have z_c := World.block_lt_of_cell? _ _ c_c_0
  clear z_a
  have hB2 := below_two hB1 hs2
  clear hB1 hs2
  go_wp2_with fail
  have hR' := hR.below (hB2.alloc hB2.size (.cells #[.int .i64 s, .int .i64 b, .int .i64 o] 23))
  refine (HB.out _).mono ?_
  rintro e w3 ⟨rfl, hb3⟩
  clear hR'
  have hs3 : Below w2.heap.size w2 w3 := Below.trans (by repeat (first | exact Below.refl _ _ | refine Below.alloc ?_ (by simp <;> omega) _)) (hb3.mono (by simp <;> omega))
  clear c_b_0
  clear c_b_1
  clear c_b_2
  replace c_c_0 := cell_later hs3 c_c_0
  replace c_c_1 := cell_later hs3 c_c_1
  replace c_c_2 := cell_later hs3 c_c_2
  have c_p_0 : w3.cell? ⟨w2.heap.size, 0, none⟩ = some (.int .i64 s) := (hb3.cell (by simp <;> omega)).trans (by go_simp)
  have c_p_1 : w3.cell? ⟨w2.heap.size, 1, none⟩ = some (.int .i64 b) := (hb3.cell (by simp <;> omega)).trans (by go_simp)
  have c_p_2 : w3.cell? ⟨w2.heap.size, 2, none⟩ = some (.int .i64 o) := (hb3.cell (by simp <;> omega)).trans (by go_simp)
  clear z_c
  have z_c := World.block_lt_of_cell? _ _ c_c_0
  have z_p := World.block_lt_of_cell? _ _ c_p_0
  clear z_b
  have hB3 := below_two hB2 hs3
  clear hB2 hs3 hb3
  go_wp2_with fail
  have hR' := hR.below (hB3.alloc hB3.size (.cells #[.int .i64 t, .int .i64 c, .int .i64 p] 23))
  refine (HC.out _).mono ?_
  rintro e w4 ⟨rfl, hb4⟩
  clear hR'
  have hs4 : Below w3.heap.size w3 w4 := Below.trans (by repeat (first | exact Below.refl _ _ | refine Below.alloc ?_ (by simp <;> omega) _)) (hb4.mono (by simp <;> omega))
  clear c_c_0
  clear c_c_1
  clear c_c_2
  replace c_p_0 := cell_later hs4 c_p_0
  replace c_p_1 := cell_later hs4 c_p_1
  replace c_p_2 := cell_later hs4 c_p_2
  have c_q_0 : w4.cell? ⟨w3.heap.size, 0, none⟩ = some (.int .i64 t) := (hb4.cell (by simp <;> omega)).trans (by go_simp)
  have c_q_1 : w4.cell? ⟨w3.heap.size, 1, none⟩ = some (.int .i64 c) := (hb4.cell (by simp <;> omega)).trans (by go_simp)
  have c_q_2 : w4.cell? ⟨w3.heap.size, 2, none⟩ = some (.int .i64 p) := (hb4.cell (by simp <;> omega)).trans (by go_simp)
  clear z_p
  have z_p := World.block_lt_of_cell? _ _ c_p_0
  have z_q := World.block_lt_of_cell? _ _ c_q_0
  clear z_c
  have hB4 := below_two hB3 hs4
  clear hB3 hs4 hb4
  go_wp2_with fail
  have hR' := hR.below (hB4.alloc hB4.size (.cells #[.int .i64 u, .int .i64 d, .int .i64 q] 23))
  refine (compare_any _ _ _ _ _ _ _ hR').mono ?_
  rintro e w5 ⟨rfl, hb5⟩
  clear hR'
  have hs5 : Below w4.heap.size w4 w5 := Below.trans (by repeat (first | exact Below.refl _ _ | refine Below.alloc ?_ (by simp <;> omega) _)) (hb5.mono (by simp <;> omega))
  replace c_p_0 := cell_later hs5 c_p_0
  replace c_p_1 := cell_later hs5 c_p_1
  replace c_p_2 := cell_later hs5 c_p_2
  replace c_q_0 := cell_later hs5 c_q_0
  replace c_q_1 := cell_later hs5 c_q_1
  replace c_q_2 := cell_later hs5 c_q_2
  have c_r_0 : w5.cell? ⟨w4.heap.size, 0, none⟩ = some (.int .i64 u) := (hb5.cell (by simp <;> omega)).trans (by go_simp)
  have c_r_1 : w5.cell? ⟨w4.heap.size, 1, none⟩ = some (.int .i64 d) := (hb5.cell (by simp <;> omega)).trans (by go_simp)
  have c_r_2 : w5.cell? ⟨w4.heap.size, 2, none⟩ = some (.int .i64 q) := (hb5.cell (by simp <;> omega)).trans (by go_simp)
  clear z_p
  have z_p := World.block_lt_of_cell? _ _ c_p_0
  clear z_q
  have z_q := World.block_lt_of_cell? _ _ c_q_0
  have z_r := World.block_lt_of_cell? _ _ c_r_0
  have hB5 := below_two hB4 hs5
  clear hB4 hs5 hb5
  rw [H1.out]
  go_wp2_with fail
  have hR' := hR.below hB5
  refine (compare_any _ _ _ _ _ _ _ hR').mono ?_
  rintro e w6 ⟨rfl, hb6⟩
  clear hR'
  have hs6 := hb6
  replace c_p_0 := cell_later hs6 c_p_0
  replace c_p_1 := cell_later hs6 c_p_1
  replace c_p_2 := cell_later hs6 c_p_2
  replace c_q_0 := cell_later hs6 c_q_0
  replace c_q_1 := cell_later hs6 c_q_1
  replace c_q_2 := cell_later hs6 c_q_2
  replace c_r_0 := cell_later hs6 c_r_0
  replace c_r_1 := cell_later hs6 c_r_1
  replace c_r_2 := cell_later hs6 c_r_2
  clear z_p
  have z_p := World.block_lt_of_cell? _ _ c_p_0
  clear z_q
  have z_q := World.block_lt_of_cell? _ _ c_q_0
  clear z_r
  have z_r := World.block_lt_of_cell? _ _ c_r_0
  have hB6 := below_two hB5 hs6
  clear hB5 hs6
  rw [H2.out]
  go_wp2_with fail
  have hR' := hR.below hB6
  refine (compare_any _ _ _ _ _ _ _ hR').mono ?_
  rintro e w7 ⟨rfl, hb7⟩
  clear hR'
  have hs7 := hb7
  clear c_r_0
  clear c_r_1
  clear c_r_2
  replace c_p_0 := cell_later hs7 c_p_0
  replace c_p_1 := cell_later hs7 c_p_1
  replace c_p_2 := cell_later hs7 c_p_2
  replace c_q_0 := cell_later hs7 c_q_0
  replace c_q_1 := cell_later hs7 c_q_1
  replace c_q_2 := cell_later hs7 c_q_2
  clear z_p
  have z_p := World.block_lt_of_cell? _ _ c_p_0
  clear z_q
  have z_q := World.block_lt_of_cell? _ _ c_q_0
  clear z_r
  have hB7 := below_two hB6 hs7
  clear hB6 hs7
  rw [H3.out]
  go_wp2_with fail
  have hR' := hR.below hB7
  refine (numberE _ _ _ _ hR').mono ?_
  rintro e w8 ⟨rfl, hb8⟩
  clear hR'
  have hs8 := hb8
  replace c_p_0 := cell_later hs8 c_p_0
  replace c_p_1 := cell_later hs8 c_p_1
  replace c_p_2 := cell_later hs8 c_p_2
  replace c_q_0 := cell_later hs8 c_q_0
  replace c_q_1 := cell_later hs8 c_q_1
  replace c_q_2 := cell_later hs8 c_q_2
  clear z_p
  have z_p := World.block_lt_of_cell? _ _ c_p_0
  clear z_q
  have z_q := World.block_lt_of_cell? _ _ c_q_0
  have hB8 := below_two hB7 hs8
  clear hB7 hs8
  rw [HP.out, HM.out]
  simp only [onlyR, errP, if_true]
  go_wp2_with fail
  have hR' := hR.below hB8
  refine (numberE _ _ _ _ hR').mono ?_
  rintro e w9 ⟨rfl, hb9⟩
  clear hR'
  have hs9 := hb9
  replace c_p_0 := cell_later hs9 c_p_0
  replace c_p_1 := cell_later hs9 c_p_1
  replace c_p_2 := cell_later hs9 c_p_2
  replace c_q_0 := cell_later hs9 c_q_0
  replace c_q_1 := cell_later hs9 c_q_1
  replace c_q_2 := cell_later hs9 c_q_2
  clear z_p
  have z_p := World.block_lt_of_cell? _ _ c_p_0
  clear z_q
  have z_q := World.block_lt_of_cell? _ _ c_q_0
  have hB9 := below_two hB8 hs9
  clear hB8 hs9
  rw [HQ.out, HN.out]
  simp only [onlyR, errP, if_true]
  go_wp2_with fail
  have hR' := hR.below hB9
  refine (compare_any _ _ _ _ _ _ _ hR').mono ?_
  rintro e w10 ⟨rfl, hb10⟩
  clear hR'
  have hs10 := hb10
  replace c_p_0 := cell_later hs10 c_p_0
  replace c_p_1 := cell_later hs10 c_p_1
  replace c_p_2 := cell_later hs10 c_p_2
  replace c_q_0 := cell_later hs10 c_q_0
  replace c_q_1 := cell_later hs10 c_q_1
  replace c_q_2 := cell_later hs10 c_q_2
  clear z_p
  have z_p := World.block_lt_of_cell? _ _ c_p_0
  clear z_q
  have z_q := World.block_lt_of_cell? _ _ c_q_0
  have hB10 := below_two hB9 hs10
  clear hB9 hs10
  rw [H4.out]
  by_cases hmn2 : m = n
  · subst hmn2
    go_wp2
    go_ret
    exact ⟨rfl, hB10⟩
  · have hmn3 : (m == n) = false := by simp [hmn2]
    have hmn4 : ¬ m < n := by omega
    go_wp2
    go_ret
    exact ⟨ret_bool (by rw [decide_eq_false (by omega)]; rfl), hB10⟩

set_option maxRecDepth 100000 in
set_option maxHeartbeats 4000000 in
theorem order_pnz (a1 a2 a3 b1 b2 b3 c1 c2 c3 s b o t c p u d q m n : Int) (w : World) (hR : Ready w) (HA : Hid (∀ w, Calls Tryd.prog 13 #[pt a1 a2 a3] w fun e w' => e = .returned (pt s b o) ∧ Below w.heap.size w w')) (HB : Hid (∀ w, Calls Tryd.prog 13 #[pt b1 b2 b3] w fun e w' => e = .returned (pt t c p) ∧ Below w.heap.size w w')) (HC : Hid (∀ w, Calls Tryd.prog 13 #[pt c1 c2 c3] w fun e w' => e = .returned (pt u d q) ∧ Below w.heap.size w w')) (HP : Hid (Pit.right s b o = true)) (HQ : Hid (Pit.right t c p = true)) (HM : Hid (Pit.num s b o = m)) (HN : Hid (Pit.num t c p = n)) (H1 : Hid (Pit.cmpP (Pit.right s b o && Pit.right t c p) s b o t c p = 1)) (H2 : Hid (Pit.cmpP (Pit.right t c p && Pit.right u d q) t c p u d q = -1)) (H3 : Hid (Pit.cmpP (Pit.right s b o && Pit.right u d q) s b o u d q = 0)) (H4 : Hid (Pit.cmpP (Pit.right t c p && Pit.right s b o) t c p s b o = -1)) (hpq : eqP s b o t c p = false) (hmn : n ≤ m) :
    Calls Tryd.prog 8 #[pt a1 a2 a3, pt b1 b2 b3, pt c1 c2 c3] w fun e w' => e = .returned (.bool true) ∧ Below w.heap.size w w' := by
  have hgP := guardP
  have hgI := guardI
  have heP := eql_pt
  have heI := eql_iv
  have hnP := neq_pt
  have hsP := eqP_self
  have hsI := eqI_self
  have hB0 : Below w.heap.size w w := Below.refl _ _
  go_enter Tryd.func8, Tryd.ntmps8
  go_wp2_with fail
  have hR' := hR.below (((hB0.alloc hB0.size (.cells #[.int .i64 a1, .int .i64 a2, .int .i64 a3] 23)).alloc (hB0.alloc hB0.size (.cells #[.int .i64 a1, .int .i64 a2, .int .i64 a3] 23)).size (.cells #[.int .i64 b1, .int .i64 b2, .int .i64 b3] 23)).alloc ((hB0.alloc hB0.size (.cells #[.int .i64 a1, .int .i64 a2, .int .i64 a3] 23)).alloc (hB0.alloc hB0.size (.cells #[.int .i64 a1, .int .i64 a2, .int .i64 a3] 23)).size (.cells #[.int .i64 b1, .int .i64 b2, .int .i64 b3] 23)).size (.cells #[.int .i64 c1, .int .i64 c2, .int .i64 c3] 23))
  refine (awake_any _ hR').mono ?_
  rintro e w1 ⟨rfl, hb1⟩
  clear hR'
  have hs1 : Below w.heap.size w w1 := Below.trans (by repeat (first | exact Below.refl _ _ | refine Below.alloc ?_ (by simp <;> omega) _)) (hb1.mono (by simp <;> omega))
  have c_a_0 : w1.cell? ⟨w.heap.size, 0, none⟩ = some (.int .i64 a1) := (hb1.cell (by simp <;> omega)).trans (by go_simp)
  have c_a_1 : w1.cell? ⟨w.heap.size, 1, none⟩ = some (.int .i64 a2) := (hb1.cell (by simp <;> omega)).trans (by go_simp)
  have c_a_2 : w1.cell? ⟨w.heap.size, 2, none⟩ = some (.int .i64 a3) := (hb1.cell (by simp <;> omega)).trans (by go_simp)
  have c_b_0 : w1.cell? ⟨w.heap.size + 1, 0, none⟩ = some (.int .i64 b1) := (hb1.cell (by simp <;> omega)).trans (by go_simp)
  have c_b_1 : w1.cell? ⟨w.heap.size + 1, 1, none⟩ = some (.int .i64 b2) := (hb1.cell (by simp <;> omega)).trans (by go_simp)
  have c_b_2 : w1.cell? ⟨w.heap.size + 1, 2, none⟩ = some (.int .i64 b3) := (hb1.cell (by simp <;> omega)).trans (by go_simp)
  have c_c_0 : w1.cell? ⟨w.heap.size + 1 + 1, 0, none⟩ = some (.int .i64 c1) := (hb1.cell (by simp <;> omega)).trans (by go_simp)
  have c_c_1 : w1.cell? ⟨w.heap.size + 1 + 1, 1, none⟩ = some (.int .i64 c2) := (hb1.cell (by simp <;> omega)).trans (by go_simp)
  have c_c_2 : w1.cell? ⟨w.heap.size + 1 + 1, 2, none⟩ = some (.int .i64 c3) := (hb1.cell (by simp <;> omega)).trans (by go_simp)
  have z_a := World.block_lt_of_cell? _ _ c_a_0
  have z_b := World.block_lt_of_cell? _ _ c_b_0
  have z_c := World.block_lt_of_cell? _ _ c_c_0
  have hB1 := below_two hB0 hs1
  clear hB0 hs1 hb1
  go_wp2_with fail
  have hR' := hR.below hB1
  refine (HA.out _).mono ?_
  rintro e w2 ⟨rfl, hb2⟩
  clear hR'
  have hs2 := hb2
  clear c_a_0
  clear c_a_1
  clear c_a_2
  replace c_b_0 := cell_later hs2 c_b_0
  replace c_b_1 := cell_later hs2 c_b_1
  replace c_b_2 := cell_later hs2 c_b_2
  replace c_c_0 := cell_later hs2 c_c_0
  replace c_c_1 := cell_later hs2 c_c_1
  replace c_c_2 := cell_later hs2 c_c_2
  clear z_b
  have z_b := World.block_lt_of_cell? _ _ c_b_0
  clear z_c
  have z_c := World.block_lt_of_cell? _ _ c_c_0
  clear z_a
  have hB2 := below_two hB1 hs2
  clear hB1 hs2
  go_wp2_with fail
  have hR' := hR.below (hB2.alloc hB2.size (.cells #[.int .i64 s, .int .i64 b, .int .i64 o] 23))
  refine (HB.out _).mono ?_
  rintro e w3 ⟨rfl, hb3⟩
  clear hR'
  have hs3 : Below w2.heap.size w2 w3 := Below.trans (by repeat (first | exact Below.refl _ _ | refine Below.alloc ?_ (by simp <;> omega) _)) (hb3.mono (by simp <;> omega))
  clear c_b_0
  clear c_b_1
  clear c_b_2
  replace c_c_0 := cell_later hs3 c_c_0
  replace c_c_1 := cell_later hs3 c_c_1
  replace c_c_2 := cell_later hs3 c_c_2
  have c_p_0 : w3.cell? ⟨w2.heap.size, 0, none⟩ = some (.int .i64 s) := (hb3.cell (by simp <;> omega)).trans (by go_simp)
  have c_p_1 : w3.cell? ⟨w2.heap.size, 1, none⟩ = some (.int .i64 b) := (hb3.cell (by simp <;> omega)).trans (by go_simp)
  have c_p_2 : w3.cell? ⟨w2.heap.size, 2, none⟩ = some (.int .i64 o) := (hb3.cell (by simp <;> omega)).trans (by go_simp)
  clear z_c
  have z_c := World.block_lt_of_cell? _ _ c_c_0
  have z_p := World.block_lt_of_cell? _ _ c_p_0
  clear z_b
  have hB3 := below_two hB2 hs3
  clear hB2 hs3 hb3
  go_wp2_with fail
  have hR' := hR.below (hB3.alloc hB3.size (.cells #[.int .i64 t, .int .i64 c, .int .i64 p] 23))
  refine (HC.out _).mono ?_
  rintro e w4 ⟨rfl, hb4⟩
  clear hR'
  have hs4 : Below w3.heap.size w3 w4 := Below.trans (by repeat (first | exact Below.refl _ _ | refine Below.alloc ?_ (by simp <;> omega) _)) (hb4.mono (by simp <;> omega))
  clear c_c_0
  clear c_c_1
  clear c_c_2
  replace c_p_0 := cell_later hs4 c_p_0
  replace c_p_1 := cell_later hs4 c_p_1
  replace c_p_2 := cell_later hs4 c_p_2
  have c_q_0 : w4.cell? ⟨w3.heap.size, 0, none⟩ = some (.int .i64 t) := (hb4.cell (by simp <;> omega)).trans (by go_simp)
  have c_q_1 : w4.cell? ⟨w3.heap.size, 1, none⟩ = some (.int .i64 c) := (hb4.cell (by simp <;> omega)).trans (by go_simp)
  have c_q_2 : w4.cell? ⟨w3.heap.size, 2, none⟩ = some (.int .i64 p) := (hb4.cell (by simp <;> omega)).trans (by go_simp)
  clear z_p
  have z_p := World.block_lt_of_cell? _ _ c_p_0
  have z_q := World.block_lt_of_cell? _ _ c_q_0
  clear z_c
  have hB4 := below_two hB3 hs4
  clear hB3 hs4 hb4
  go_wp2_with fail
  have hR' := hR.below (hB4.alloc hB4.size (.cells #[.int .i64 u, .int .i64 d, .int .i64 q] 23))
  refine (compare_any _ _ _ _ _ _ _ hR').mono ?_
  rintro e w5 ⟨rfl, hb5⟩
  clear hR'
  have hs5 : Below w4.heap.size w4 w5 := Below.trans (by repeat (first | exact Below.refl _ _ | refine Below.alloc ?_ (by simp <;> omega) _)) (hb5.mono (by simp <;> omega))
  replace c_p_0 := cell_later hs5 c_p_0
  replace c_p_1 := cell_later hs5 c_p_1
  replace c_p_2 := cell_later hs5 c_p_2
  replace c_q_0 := cell_later hs5 c_q_0
  replace c_q_1 := cell_later hs5 c_q_1
  replace c_q_2 := cell_later hs5 c_q_2
  have c_r_0 : w5.cell? ⟨w4.heap.size, 0, none⟩ = some (.int .i64 u) := (hb5.cell (by simp <;> omega)).trans (by go_simp)
  have c_r_1 : w5.cell? ⟨w4.heap.size, 1, none⟩ = some (.int .i64 d) := (hb5.cell (by simp <;> omega)).trans (by go_simp)
  have c_r_2 : w5.cell? ⟨w4.heap.size, 2, none⟩ = some (.int .i64 q) := (hb5.cell (by simp <;> omega)).trans (by go_simp)
  clear z_p
  have z_p := World.block_lt_of_cell? _ _ c_p_0
  clear z_q
  have z_q := World.block_lt_of_cell? _ _ c_q_0
  have z_r := World.block_lt_of_cell? _ _ c_r_0
  have hB5 := below_two hB4 hs5
  clear hB4 hs5 hb5
  rw [H1.out]
  go_wp2_with fail
  have hR' := hR.below hB5
  refine (compare_any _ _ _ _ _ _ _ hR').mono ?_
  rintro e w6 ⟨rfl, hb6⟩
  clear hR'
  have hs6 := hb6
  replace c_p_0 := cell_later hs6 c_p_0
  replace c_p_1 := cell_later hs6 c_p_1
  replace c_p_2 := cell_later hs6 c_p_2
  replace c_q_0 := cell_later hs6 c_q_0
  replace c_q_1 := cell_later hs6 c_q_1
  replace c_q_2 := cell_later hs6 c_q_2
  replace c_r_0 := cell_later hs6 c_r_0
  replace c_r_1 := cell_later hs6 c_r_1
  replace c_r_2 := cell_later hs6 c_r_2
  clear z_p
  have z_p := World.block_lt_of_cell? _ _ c_p_0
  clear z_q
  have z_q := World.block_lt_of_cell? _ _ c_q_0
  clear z_r
  have z_r := World.block_lt_of_cell? _ _ c_r_0
  have hB6 := below_two hB5 hs6
  clear hB5 hs6
  rw [H2.out]
  go_wp2_with fail
  have hR' := hR.below hB6
  refine (compare_any _ _ _ _ _ _ _ hR').mono ?_
  rintro e w7 ⟨rfl, hb7⟩
  clear hR'
  have hs7 := hb7
  clear c_r_0
  clear c_r_1
  clear c_r_2
  replace c_p_0 := cell_later hs7 c_p_0
  replace c_p_1 := cell_later hs7 c_p_1
  replace c_p_2 := cell_later hs7 c_p_2
  replace c_q_0 := cell_later hs7 c_q_0
  replace c_q_1 := cell_later hs7 c_q_1
  replace c_q_2 := cell_later hs7 c_q_2
  clear z_p
  have z_p := World.block_lt_of_cell? _ _ c_p_0
  clear z_q
  have z_q := World.block_lt_of_cell? _ _ c_q_0
  clear z_r
  have hB7 := below_two hB6 hs7
  clear hB6 hs7
  rw [H3.out]
  go_wp2_with fail
  have hR' := hR.below hB7
  refine (numberE _ _ _ _ hR').mono ?_
  rintro e w8 ⟨rfl, hb8⟩
  clear hR'
  have hs8 := hb8
  replace c_p_0 := cell_later hs8 c_p_0
  replace c_p_1 := cell_later hs8 c_p_1
  replace c_p_2 := cell_later hs8 c_p_2
  replace c_q_0 := cell_later hs8 c_q_0
  replace c_q_1 := cell_later hs8 c_q_1
  replace c_q_2 := cell_later hs8 c_q_2
  clear z_p
  have z_p := World.block_lt_of_cell? _ _ c_p_0
  clear z_q
  have z_q := World.block_lt_of_cell? _ _ c_q_0
  have hB8 := below_two hB7 hs8
  clear hB7 hs8
  rw [HP.out, HM.out]
  simp only [onlyR, errP, if_true]
  go_wp2_with fail
  have hR' := hR.below hB8
  refine (numberE _ _ _ _ hR').mono ?_
  rintro e w9 ⟨rfl, hb9⟩
  clear hR'
  have hs9 := hb9
  replace c_p_0 := cell_later hs9 c_p_0
  replace c_p_1 := cell_later hs9 c_p_1
  replace c_p_2 := cell_later hs9 c_p_2
  replace c_q_0 := cell_later hs9 c_q_0
  replace c_q_1 := cell_later hs9 c_q_1
  replace c_q_2 := cell_later hs9 c_q_2
  clear z_p
  have z_p := World.block_lt_of_cell? _ _ c_p_0
  clear z_q
  have z_q := World.block_lt_of_cell? _ _ c_q_0
  have hB9 := below_two hB8 hs9
  clear hB8 hs9
  rw [HQ.out, HN.out]
  simp only [onlyR, errP, if_true]
  go_wp2_with fail
  have hR' := hR.below hB9
  refine (compare_any _ _ _ _ _ _ _ hR').mono ?_
  rintro e w10 ⟨rfl, hb10⟩
  clear hR'
  have hs10 := hb10
  replace c_p_0 := cell_later hs10 c_p_0
  replace c_p_1 := cell_later hs10 c_p_1
  replace c_p_2 := cell_later hs10 c_p_2
  replace c_q_0 := cell_later hs10 c_q_0
  replace c_q_1 := cell_later hs10 c_q_1
  replace c_q_2 := cell_later hs10 c_q_2
  clear z_p
  have z_p := World.block_lt_of_cell? _ _ c_p_0
  clear z_q
  have z_q := World.block_lt_of_cell? _ _ c_q_0
  have hB10 := below_two hB9 hs10
  clear hB9 hs10
  rw [H4.out]
  by_cases hmn2 : m = n
  · subst hmn2
    go_wp2
    go_ret
    exact ⟨rfl, hB10⟩
  · have hmn3 : (m == n) = false := by simp [hmn2]
    have hmn4 : ¬ m < n := by omega
    go_wp2
    go_ret
    exact ⟨ret_bool (by rw [decide_eq_false (by omega)]; rfl), hB10⟩

set_option maxRecDepth 100000 in
set_option maxHeartbeats 4000000 in
theorem order_pnp (a1 a2 a3 b1 b2 b3 c1 c2 c3 s b o t c p u d q m n : Int) (w : World) (hR : Ready w) (HA : Hid (∀ w, Calls Tryd.prog 13 #[pt a1 a2 a3] w fun e w' => e = .returned (pt s b o) ∧ Below w.heap.size w w')) (HB : Hid (∀ w, Calls Tryd.prog 13 #[pt b1 b2 b3] w fun e w' => e = .returned (pt t c p) ∧ Below w.heap.size w w')) (HC : Hid (∀ w, Calls Tryd.prog 13 #[pt c1 c2 c3] w fun e w' => e = .returned (pt u d q) ∧ Below w.heap.size w w')) (HP : Hid (Pit.right s b o = true)) (HQ : Hid (Pit.right t c p = true)) (HM : Hid (Pit.num s b o = m)) (HN : Hid (Pit.num t c p = n)) (H1 : Hid (Pit.cmpP (Pit.right s b o && Pit.right t c p) s b o t c p = 1)) (H2 : Hid (Pit.cmpP (Pit.right t c p && Pit.right u d q) t c p u d q = -1)) (H3 : Hid (Pit.cmpP (Pit.right s b o && Pit.right u d q) s b o u d q = 1)) (H4 : Hid (Pit.cmpP (Pit.right t c p && Pit.right s b o) t c p s b o = -1)) (hpq : eqP s b o t c p = false) (hmn : n ≤ m) :
    Calls Tryd.prog 8 #[pt a1 a2 a3, pt b1 b2 b3, pt c1 c2 c3] w fun e w' => e = .returned (.bool true) ∧ Below w.heap.size w w' := by
  have hgP := guardP
  have hgI := guardI
  have heP := eql_pt
  have heI := eql_iv
  have hnP := neq_pt
  have hsP := eqP_self
  have hsI := eqI_self
  have hB0 : Below w.heap.size w w := Below.refl _ _
  go_enter Tryd.func8, Tryd.ntmps8
  go_wp2_with fail
  have hR' := hR.below (((hB0.alloc hB0.size (.cells #[.int .i64 a1, .int .i64 a2, .int .i64 a3] 23)).alloc (hB0.alloc hB0.size (.cells #[.int .i64 a1, .int .i64 a2, .int .i64 a3] 23)).size (.cells #[.int .i64 b1, .int .i64 b2, .int .i64 b3] 23)).alloc ((hB0.alloc hB0.size (.cells #[.int .i64 a1, .int .i64 a2, .int .i64 a3] 23)).alloc (hB0.alloc hB0.size (.cells #[.int .i64 a1, .int .i64 a2, .int .i64 a3] 23)).size (.cells #[.int .i64 b1, .int .i64 b2, .int .i64 b3] 23)).size (.cells #[.int .i64 c1, .int .i64 c2, .int .i64 c3] 23))
  refine (awake_any _ hR').mono ?_
  rintro e w1 ⟨rfl, hb1⟩
  clear hR'
  have hs1 : Below w.heap.size w w1 := Below.trans (by repeat (first | exact Below.refl _ _ | refine Below.alloc ?_ (by simp <;> omega) _)) (hb1.mono (by simp <;> omega))
  have c_a_0 : w1.cell? ⟨w.heap.size, 0, none⟩ = some (.int .i64 a1) := (hb1.cell (by simp <;> omega)).trans (by go_simp)
  have c_a_1 : w1.cell? ⟨w.heap.size, 1, none⟩ = some (.int .i64 a2) := (hb1.cell (by simp <;> omega)).trans (by go_simp)
  have c_a_2 : w1.cell? ⟨w.heap.size, 2, none⟩ = some (.int .i64 a3) := (hb1.cell (by simp <;> omega)).trans (by go_simp)
  have c_b_0 : w1.cell? ⟨w.heap.size + 1, 0, none⟩ = some (.int .i64 b1) := (hb1.cell (by simp <;> omega)).trans (by go_simp)
  have c_b_1 : w1.cell? ⟨w.heap.size + 1, 1, none⟩ = some (.int .i64 b2) := (hb1.cell (by simp <;> omega)).trans (by go_simp)
  have c_b_2 : w1.cell? ⟨w.heap.size + 1, 2, none⟩ = some (.int .i64 b3) := (hb1.cell (by simp <;> omega)).trans (by go_simp)
  have c_c_0 : w1.cell? ⟨w.heap.size + 1 + 1, 0, none⟩ = some (.int .i64 c1) := (hb1.cell (by simp <;> omega)).trans (by go_simp)
  have c_c_1 : w1.cell? ⟨w.heap.size + 1 + 1, 1, none⟩ = some (.int .i64 c2) := (hb1.cell (by simp <;> omega)).trans (by go_simp)
  have c_c_2 : w1.cell? ⟨w.heap.size + 1 + 1, 2, none⟩ = some (.int .i64 c3) := (hb1.cell (by simp <;> omega)).trans (by go_simp)
  have z_a := World.block_lt_of_cell? _ _ c_a_0
  have z_b := World.block_lt_of_cell? _ _ c_b_0
  have z_c := World.block_lt_of_cell? _ _ c_c_0
  have hB1 := below_two hB0 hs1
  clear hB0 hs1 hb1
  go_wp2_with fail
  have hR' := hR.below hB1
  refine (HA.out _).mono ?_
  rintro e w2 ⟨rfl, hb2⟩
  clear hR'
  have hs2 := hb2
  clear c_a_0
  clear c_a_1
  clear c_a_2
  replace c_b_0 := cell_later hs2 c_b_0
  replace c_b_1 := cell_later hs2 c_b_1
  replace c_b_2 := cell_later hs2 c_b_2
  replace c_c_0 := cell_later hs2 c_c_0
  replace c_c_1 := cell_later hs2 c_c_1
  replace c_c_2 := cell_later hs2 c_c_2
  clear z_b
  have z_b := World.block_lt_of_cell? _ _ c_b_0
  clear z_c
  have z_c := World.block_lt_of_cell? _ _ c_c_0
  clear z_a
  have hB2 := below_two hB1 hs2
  clear hB1 hs2
  go_wp2_with fail
  have hR' := hR.below (hB2.alloc hB2.size (.cells #[.int .i64 s, .int .i64 b, .int .i64 o] 23))
  refine (HB.out _).mono ?_
  rintro e w3 ⟨rfl, hb3⟩
  clear hR'
  have hs3 : Below w2.heap.size w2 w3 := Below.trans (by repeat (first | exact Below.refl _ _ | refine Below.alloc ?_ (by simp <;> omega) _)) (hb3.mono (by simp <;> omega))
  clear c_b_0
  clear c_b_1
  clear c_b_2
  replace c_c_0 := cell_later hs3 c_c_0
  replace c_c_1 := cell_later hs3 c_c_1
  replace c_c_2 := cell_later hs3 c_c_2
  have c_p_0 : w3.cell? ⟨w2.heap.size, 0, none⟩ = some (.int .i64 s) := (hb3.cell (by simp <;> omega)).trans (by go_simp)
  have c_p_1 : w3.cell? ⟨w2.heap.size, 1, none⟩ = some (.int .i64 b) := (hb3.cell (by simp <;> omega)).trans (by go_simp)
  have c_p_2 : w3.cell? ⟨w2.heap.size, 2, none⟩ = some (.int .i64 o) := (hb3.cell (by simp <;> omega)).trans (by go_simp)
  clear z_c
  have z_c := World.block_lt_of_cell? _ _ c_c_0
  have z_p := World.block_lt_of_cell? _ _ c_p_0
  clear z_b
  have hB3 := below_two hB2 hs3
  clear hB2 hs3 hb3
  go_wp2_with fail
  have hR' := hR.below (hB3.alloc hB3.size (.cells #[.int .i64 t, .int .i64 c, .int .i64 p] 23))
  refine (HC.out _).mono ?_
  rintro e w4 ⟨rfl, hb4⟩
  clear hR'
  have hs4 : Below w3.heap.size w3 w4 := Below.trans (by repeat (first | exact Below.refl _ _ | refine Below.alloc ?_ (by simp <;> omega) _)) (hb4.mono (by simp <;> omega))
  clear c_c_0
  clear c_c_1
  clear c_c_2
  replace c_p_0 := cell_later hs4 c_p_0
  replace c_p_1 := cell_later hs4 c_p_1
  replace c_p_2 := cell_later hs4 c_p_2
  have c_q_0 : w4.cell? ⟨w3.heap.size, 0, none⟩ = some (.int .i64 t) := (hb4.cell (by simp <;> omega)).trans (by go_simp)
  have c_q_1 : w4.cell? ⟨w3.heap.size, 1, none⟩ = some (.int .i64 c) := (hb4.cell (by simp <;> omega)).trans (by go_simp)
  have c_q_2 : w4.cell? ⟨w3.heap.size, 2, none⟩ = some (.int .i64 p) := (hb4.cell (by simp <;> omega)).trans (by go_simp)
  clear z_p
  have z_p := World.block_lt_of_cell? _ _ c_p_0
  have z_q := World.block_lt_of_cell? _ _ c_q_0
  clear z_c
  have hB4 := below_two hB3 hs4
  clear hB3 hs4 hb4
  go_wp2_with fail
  have hR' := hR.below (hB4.alloc hB4.size (.cells #[.int .i64 u, .int .i64 d, .int .i64 q] 23))
  refine (compare_any _ _ _ _ _ _ _ hR').mono ?_
  rintro e w5 ⟨rfl, hb5⟩
  clear hR'
  have hs5 : Below w4.heap.size w4 w5 := Below.trans (by repeat (first | exact Below.refl _ _ | refine Below.alloc ?_ (by simp <;> omega) _)) (hb5.mono (by simp <;> omega))
  replace c_p_0 := cell_later hs5 c_p_0
  replace c_p_1 := cell_later hs5 c_p_1
  replace c_p_2 := cell_later hs5 c_p_2
  replace c_q_0 := cell_later hs5 c_q_0
  replace c_q_1 := cell_later hs5 c_q_1
  replace c_q_2 := cell_later hs5 c_q_2
  have c_r_0 : w5.cell? ⟨w4.heap.size, 0, none⟩ = some (.int .i64 u) := (hb5.cell (by simp <;> omega)).trans (by go_simp)
  have c_r_1 : w5.cell? ⟨w4.heap.size, 1, none⟩ = some (.int .i64 d) := (hb5.cell (by simp <;> omega)).trans (by go_simp)
  have c_r_2 : w5.cell? ⟨w4.heap.size, 2, none⟩ = some (.int .i64 q) := (hb5.cell (by simp <;> omega)).trans (by go_simp)
  clear z_p
  have z_p := World.block_lt_of_cell? _ _ c_p_0
  clear z_q
  have z_q := World.block_lt_of_cell? _ _ c_q_0
  have z_r := World.block_lt_of_cell? _ _ c_r_0
  have hB5 := below_two hB4 hs5
  clear hB4 hs5 hb5
  rw [H1.out]
  go_wp2_with fail
  have hR' := hR.below hB5
  refine (compare_any _ _ _ _ _ _ _ hR').mono ?_
  rintro e w6 ⟨rfl, hb6⟩
  clear hR'
  have hs6 := hb6
  replace c_p_0 := cell_later hs6 c_p_0
  replace c_p_1 := cell_later hs6 c_p_1
  replace c_p_2 := cell_later hs6 c_p_2
  replace c_q_0 := cell_later hs6 c_q_0
  replace c_q_1 := cell_later hs6 c_q_1
  replace c_q_2 := cell_later hs6 c_q_2
  replace c_r_0 := cell_later hs6 c_r_0
  replace c_r_1 := cell_later hs6 c_r_1
  replace c_r_2 := cell_later hs6 c_r_2
  clear z_p
  have z_p := World.block_lt_of_cell? _ _ c_p_0
  clear z_q
  have z_q := World.block_lt_of_cell? _ _ c_q_0
  clear z_r
  have z_r := World.block_lt_of_cell? _ _ c_r_0
  have hB6 := below_two hB5 hs6
  clear hB5 hs6
  rw [H2.out]
  go_wp2_with fail
  have hR' := hR.below hB6
  refine (compare_any _ _ _ _ _ _ _ hR').mono ?_
  rintro e w7 ⟨rfl, hb7⟩
  clear hR'
  have hs7 := hb7
  clear c_r_0
  clear c_r_1
  clear c_r_2
  replace c_p_0 := cell_later hs7 c_p_0
  replace c_p_1 := cell_later hs7 c_p_1
  replace c_p_2 := cell_later hs7 c_p_2
  replace c_q_0 := cell_later hs7 c_q_0
  replace c_q_1 := cell_later hs7 c_q_1
  replace c_q_2 := cell_later hs7 c_q_2
  clear z_p
  have z_p := World.block_lt_of_cell? _ _ c_p_0
  clear z_q
  have z_q := World.block_lt_of_cell? _ _ c_q_0
  clear z_r
  have hB7 := below_two hB6 hs7
  clear hB6 hs7
  rw [H3.out]
  go_wp2_with fail
  have hR' := hR.below hB7
  refine (numberE _ _ _ _ hR').mono ?_
  rintro e w8 ⟨rfl, hb8⟩
  clear hR'
  have hs8 := hb8
  replace c_p_0 := cell_later hs8 c_p_0
  replace c_p_1 := cell_later hs8 c_p_1
  replace c_p_2 := cell_later hs8 c_p_2
  replace c_q_0 := cell_later hs8 c_q_0
  replace c_q_1 := cell_later hs8 c_q_1
  replace c_q_2 := cell_later hs8 c_q_2
  clear z_p
  have z_p := World.block_lt_of_cell? _ _ c_p_0
  clear z_q
  have z_q := World.block_lt_of_cell? _ _ c_q_0
  have hB8 := below_two hB7 hs8
  clear hB7 hs8
  rw [HP.out, HM.out]
  simp only [onlyR, errP, if_true]
  go_wp2_with fail
  have hR' := hR.below hB8
  refine (numberE _ _ _ _ hR').mono ?_
  rintro e w9 ⟨rfl, hb9⟩
  clear hR'
  have hs9 := hb9
  replace c_p_0 := cell_later hs9 c_p_0
  replace c_p_1 := cell_later hs9 c_p_1
  replace c_p_2 := cell_later hs9 c_p_2
  replace c_q_0 := cell_later hs9 c_q_0
  replace c_q_1 := cell_later hs9 c_q_1
  replace c_q_2 := cell_later hs9 c_q_2
  clear z_p
  have z_p := World.block_lt_of_cell? _ _ c_p_0
  clear z_q
  have z_q := World.block_lt_of_cell? _ _ c_q_0
  have hB9 := below_two hB8 hs9
  clear hB8 hs9
  rw [HQ.out, HN.out]
  simp only [onlyR, errP, if_true]
  go_wp2_with fail
  have hR' := hR.below hB9
  refine (compare_any _ _ _ _ _ _ _ hR').mono ?_
  rintro e w10 ⟨rfl, hb10⟩
  clear hR'
  have hs10 := hb10
  replace c_p_0 := cell_later hs10 c_p_0
  replace c_p_1 := cell_later hs10 c_p_1
  replace c_p_2 := cell_later hs10 c_p_2
  replace c_q_0 := cell_later hs10 c_q_0
  replace c_q_1 := cell_later hs10 c_q_1
  replace c_q_2 := cell_later hs10 c_q_2
  clear z_p
  have z_p := World.block_lt_of_cell? _ _ c_p_0
  clear z_q
  have z_q := World.block_lt_of_cell? _ _ c_q_0
  have hB10 := below_two hB9 hs10
  clear hB9 hs10
  rw [H4.out]
  by_cases hmn2 : m = n
  · subst hmn2
    go_wp2
    go_ret
    exact ⟨rfl, hB10⟩
  · have hmn3 : (m == n) = false := by simp [hmn2]
    have hmn4 : ¬ m < n := by omega
    go_wp2
    go_ret
    exact ⟨ret_bool (by rw [decide_eq_false (by omega)]; rfl), hB10⟩
end Go.Proofs.YtoopchnncjfjoaaDoor
