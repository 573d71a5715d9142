/-
  PitchSigns holds: the law's walk.
-/
import Derived.Test.YtoopchnncjfjoaaDoorPitI
import Derived.Test.YtoopchnncjfjoaaDoorPitRow
namespace Go.Proofs.YtoopchnncjfjoaaDoor
open Go.RowKit

set_option maxRecDepth 100000 in
set_option maxHeartbeats 4000000 in
theorem signs_yes (a1 a2 a3 s b c o M X : Int) (w : World) (hR : Ready w) (HA : Hid (∀ w, Calls Tryd.prog 13 #[pt a1 a2 a3] w fun e w' => e = .returned (pt s b o) ∧ Below w.heap.size w w')) (hbc : b + 1 = c) (hb0 : -2 ≤ b) (hb2 : b ≤ 2) (hM0 : 0 ≤ M) (hMM : M ≤ 127) (HP : Hid (Pit.right s b o = true)) (HQ : Hid (Pit.right s c o = true)) (HM : Hid (Pit.num s b o = M)) (HL : Hid (Pit.lin s o = X)) (hb3 : b < 2) (hM1 : M < 127) (HN : Hid (Pit.num s c o = M + 1)) (HC : Hid (Pit.cmpP (Pit.right s b o && Pit.right s c o) s b o s c o = -1)) :
    Calls Tryd.prog 11 #[pt a1 a2 a3] w fun e w' => e = .returned (.bool true) ∧ Below w.heap.size w w' := by
  have hgP := guardP
  have hgI := guardI
  have heP := eql_pt
  have heI := eql_iv
  have hnP := neq_pt
  have hsP := eqP_self
  have hsI := eqI_self
  have hB0 : Below w.heap.size w w := Below.refl _ _
  go_enter Tryd.func11, Tryd.ntmps11
  go_wp2_with fail
  have hR' := hR.below (hB0.alloc hB0.size (.cells #[.int .i64 a1, .int .i64 a2, .int .i64 a3] 23))
  refine (awake_any _ hR').mono ?_
  rintro e w1 ⟨rfl, hb1⟩
  clear hR'
  have hs1 : Below w.heap.size w w1 := Below.trans (by repeat (first | exact Below.refl _ _ | refine Below.alloc ?_ (by simp <;> omega) _)) (hb1.mono (by simp <;> omega))
  have c_a_0 : w1.cell? ⟨w.heap.size, 0, none⟩ = some (.int .i64 a1) := (hb1.cell (by simp <;> omega)).trans (by go_simp)
  have c_a_1 : w1.cell? ⟨w.heap.size, 1, none⟩ = some (.int .i64 a2) := (hb1.cell (by simp <;> omega)).trans (by go_simp)
  have c_a_2 : w1.cell? ⟨w.heap.size, 2, none⟩ = some (.int .i64 a3) := (hb1.cell (by simp <;> omega)).trans (by go_simp)
  have z_a := World.block_lt_of_cell? _ _ c_a_0
  have hB1 := below_two hB0 hs1
  clear hB0 hs1 hb1
  go_wp2_with fail
  have hR' := hR.below hB1
  refine (HA.out _).mono ?_
  rintro e w2 ⟨rfl, hb2⟩
  clear hR'
  have hs2 := hb2
  clear c_a_0
  clear c_a_1
  clear c_a_2
  clear z_a
  have hB2 := below_two hB1 hs2
  clear hB1 hs2
  go_wp2_with fail
  have hR' := hR.below ((hB2.alloc hB2.size (.cells #[.int .i64 s, .int .i64 b, .int .i64 o] 23)).alloc (hB2.alloc hB2.size (.cells #[.int .i64 s, .int .i64 b, .int .i64 o] 23)).size (.cells #[.int .i64 s, .int .i64 c, .int .i64 o] 23))
  refine (numberE _ _ _ _ hR').mono ?_
  rintro e w3 ⟨rfl, hb3⟩
  clear hR'
  have hs3 : Below w2.heap.size w2 w3 := Below.trans (by repeat (first | exact Below.refl _ _ | refine Below.alloc ?_ (by simp <;> omega) _)) (hb3.mono (by simp <;> omega))
  have c_p_0 : w3.cell? ⟨w2.heap.size, 0, none⟩ = some (.int .i64 s) := (hb3.cell (by simp <;> omega)).trans (by go_simp)
  have c_p_1 : w3.cell? ⟨w2.heap.size, 1, none⟩ = some (.int .i64 b) := (hb3.cell (by simp <;> omega)).trans (by go_simp)
  have c_p_2 : w3.cell? ⟨w2.heap.size, 2, none⟩ = some (.int .i64 o) := (hb3.cell (by simp <;> omega)).trans (by go_simp)
  have c_q_0 : w3.cell? ⟨w2.heap.size + 1, 0, none⟩ = some (.int .i64 s) := (hb3.cell (by simp <;> omega)).trans (by go_simp)
  have c_q_1 : w3.cell? ⟨w2.heap.size + 1, 1, none⟩ = some (.int .i64 c) := (hb3.cell (by simp <;> omega)).trans (by go_simp)
  have c_q_2 : w3.cell? ⟨w2.heap.size + 1, 2, none⟩ = some (.int .i64 o) := (hb3.cell (by simp <;> omega)).trans (by go_simp)
  have z_p := World.block_lt_of_cell? _ _ c_p_0
  have z_q := World.block_lt_of_cell? _ _ c_q_0
  have hB3 := below_two hB2 hs3
  clear hB2 hs3 hb3
  rw [HP.out, HM.out]
  simp only [onlyR, errP, if_true]
  go_wp2_with fail
  have hR' := hR.below hB3
  refine (numberE _ _ _ _ hR').mono ?_
  rintro e w4 ⟨rfl, hb4⟩
  clear hR'
  have hs4 := hb4
  replace c_p_0 := cell_later hs4 c_p_0
  replace c_p_1 := cell_later hs4 c_p_1
  replace c_p_2 := cell_later hs4 c_p_2
  replace c_q_0 := cell_later hs4 c_q_0
  replace c_q_1 := cell_later hs4 c_q_1
  replace c_q_2 := cell_later hs4 c_q_2
  clear z_p
  have z_p := World.block_lt_of_cell? _ _ c_p_0
  clear z_q
  have z_q := World.block_lt_of_cell? _ _ c_q_0
  have hB4 := below_two hB3 hs4
  clear hB3 hs4
  rw [HQ.out, HN.out]
  simp only [onlyR, errP, if_true]
  go_wp2_with fail
  have hR' := hR.below hB4
  refine (lineE _ _ _ _ hR').mono ?_
  rintro e w5 ⟨rfl, hb5⟩
  clear hR'
  have hs5 := hb5
  replace c_p_0 := cell_later hs5 c_p_0
  replace c_p_1 := cell_later hs5 c_p_1
  replace c_p_2 := cell_later hs5 c_p_2
  replace c_q_0 := cell_later hs5 c_q_0
  replace c_q_1 := cell_later hs5 c_q_1
  replace c_q_2 := cell_later hs5 c_q_2
  clear z_p
  have z_p := World.block_lt_of_cell? _ _ c_p_0
  clear z_q
  have z_q := World.block_lt_of_cell? _ _ c_q_0
  have hB5 := below_two hB4 hs5
  clear hB4 hs5
  rw [HP.out, HL.out]
  simp only [onlyR, errP, if_true]
  go_wp2_with fail
  have hR' := hR.below hB5
  refine (lineE _ _ _ _ hR').mono ?_
  rintro e w6 ⟨rfl, hb6⟩
  clear hR'
  have hs6 := hb6
  replace c_p_0 := cell_later hs6 c_p_0
  replace c_p_1 := cell_later hs6 c_p_1
  replace c_p_2 := cell_later hs6 c_p_2
  replace c_q_0 := cell_later hs6 c_q_0
  replace c_q_1 := cell_later hs6 c_q_1
  replace c_q_2 := cell_later hs6 c_q_2
  clear z_p
  have z_p := World.block_lt_of_cell? _ _ c_p_0
  clear z_q
  have z_q := World.block_lt_of_cell? _ _ c_q_0
  have hB6 := below_two hB5 hs6
  clear hB5 hs6
  rw [HQ.out, HL.out]
  simp only [onlyR, errP, if_true]
  go_wp2_with fail
  have hR' := hR.below hB6
  refine (between_any _ _ _ _ _ _ _ hR').mono ?_
  rintro e w7 ⟨rfl, hb7⟩
  clear hR'
  have hs7 := hb7
  replace c_p_0 := cell_later hs7 c_p_0
  replace c_p_1 := cell_later hs7 c_p_1
  replace c_p_2 := cell_later hs7 c_p_2
  replace c_q_0 := cell_later hs7 c_q_0
  replace c_q_1 := cell_later hs7 c_q_1
  replace c_q_2 := cell_later hs7 c_q_2
  clear z_p
  have z_p := World.block_lt_of_cell? _ _ c_p_0
  clear z_q
  have z_q := World.block_lt_of_cell? _ _ c_q_0
  have hB7 := below_two hB6 hs7
  clear hB6 hs7
  rw [HP.out, HQ.out]
  simp only [Bool.and_self, btS, btH, errP, if_true]
  rw [HL.out, HM.out, HN.out, Int.sub_self, show M + 1 - M = 1 by omega]
  go_wp2_with fail
  have hs8 : Below w7.heap.size w7 (w7.alloc (.cells #[.int .i64 0, .int .i64 1] 25)) := by repeat (first | exact Below.refl _ _ | refine Below.alloc ?_ (by simp <;> omega) _)
  replace c_p_0 := cell_later hs8 c_p_0
  replace c_p_1 := cell_later hs8 c_p_1
  replace c_p_2 := cell_later hs8 c_p_2
  replace c_q_0 := cell_later hs8 c_q_0
  replace c_q_1 := cell_later hs8 c_q_1
  replace c_q_2 := cell_later hs8 c_q_2
  have c_by_0 : (w7.alloc (.cells #[.int .i64 0, .int .i64 1] 25)).cell? ⟨w7.heap.size, 0, none⟩ = some (.int .i64 0) := by go_simp
  have c_by_1 : (w7.alloc (.cells #[.int .i64 0, .int .i64 1] 25)).cell? ⟨w7.heap.size, 1, none⟩ = some (.int .i64 1) := by go_simp
  have hB8 := below_two hB7 hs8
  clear hB7 hs8
  have y8_p := z_p
  have y8_q := z_q
  generalize (w7.alloc (.cells #[.int .i64 0, .int .i64 1] 25)) = w8 at *
  have z_by := World.block_lt_of_cell? _ _ c_by_0
  clear z_p
  have z_p := World.block_lt_of_cell? _ _ c_p_0
  clear z_q
  have z_q := World.block_lt_of_cell? _ _ c_q_0
  have QB : Hid (∀ d os, Below w.heap.size w (Go.Sort.grow (redrawn w8 d) os)) := Lib.hid (fun d os => below_two hB8 (below_regrown w8 d os))
  have g_c_p_0 := fun d os => cell_regrown c_p_0 d os
  have g_c_p_1 := fun d os => cell_regrown c_p_1 d os
  have g_c_p_2 := fun d os => cell_regrown c_p_2 d os
  have g_c_q_0 := fun d os => cell_regrown c_q_0 d os
  have g_c_q_1 := fun d os => cell_regrown c_q_1 d os
  have g_c_q_2 := fun d os => cell_regrown c_q_2 d os
  have g_c_by_0 := fun d os => cell_regrown c_by_0 d os
  have g_c_by_1 := fun d os => cell_regrown c_by_1 d os
  have q0 : Hid (∀ d os, Calls Tryd.prog 20 #[pt s c o] (Go.Sort.grow (redrawn w8 d) os) fun e w'' => e = .returned (.bool true) ∧ ∃ p : Regrown, w'' = Go.Sort.grow (redrawn w8 p.d) p.os) := Lib.hid (fun d os => Calls.regrown_of (right_yes ((Pit.right_iff _ _ _).1 HQ.out) _ (hR.below (QB.out d os))))
  refine wp_region_quiet_below (by kernel_rfl) (by kernel_rfl) ?_
  repeat (quiet_step (first | exact q0.out _ _))
  refine wpQuiet_nil ?_
  intro _ hw'
  obtain ⟨⟨dq, osq⟩, hw''⟩ := hw'
  subst hw''
  replace c_p_0 := g_c_p_0 dq osq
  clear g_c_p_0
  replace c_p_1 := g_c_p_1 dq osq
  clear g_c_p_1
  replace c_p_2 := g_c_p_2 dq osq
  clear g_c_p_2
  replace c_q_0 := g_c_q_0 dq osq
  clear g_c_q_0
  replace c_q_1 := g_c_q_1 dq osq
  clear g_c_q_1
  replace c_q_2 := g_c_q_2 dq osq
  clear g_c_q_2
  replace c_by_0 := g_c_by_0 dq osq
  clear g_c_by_0
  replace c_by_1 := g_c_by_1 dq osq
  clear g_c_by_1
  clear q0
  have hB9 := QB.out dq osq
  clear QB hB8 z_by z_p z_q
  generalize Go.Sort.grow (redrawn w8 dq) osq = w9 at *
  have z_by := World.block_lt_of_cell? _ _ c_by_0
  have z_p := World.block_lt_of_cell? _ _ c_p_0
  have z_q := World.block_lt_of_cell? _ _ c_q_0
  go_wp2_with fail
  have hR' := hR.below hB9
  refine (right_any _ _ _ _ hR').mono ?_
  rintro e w10 ⟨rfl, hb10⟩
  clear hR'
  have hs10 := hb10
  replace c_p_0 := cell_later hs10 c_p_0
  replace c_p_1 := cell_later hs10 c_p_1
  replace c_p_2 := cell_later hs10 c_p_2
  replace c_q_0 := cell_later hs10 c_q_0
  replace c_q_1 := cell_later hs10 c_q_1
  replace c_q_2 := cell_later hs10 c_q_2
  replace c_by_0 := cell_later hs10 c_by_0
  replace c_by_1 := cell_later hs10 c_by_1
  clear z_by
  have z_by := World.block_lt_of_cell? _ _ c_by_0
  clear z_p
  have z_p := World.block_lt_of_cell? _ _ c_p_0
  clear z_q
  have z_q := World.block_lt_of_cell? _ _ c_q_0
  have hB10 := below_two hB9 hs10
  clear hB9 hs10
  rw [HQ.out]
  go_wp2_with fail
  have hR' := hR.below hB10
  refine (compare_any _ _ _ _ _ _ _ hR').mono ?_
  rintro e w11 ⟨rfl, hb11⟩
  clear hR'
  have hs11 := hb11
  replace c_p_0 := cell_later hs11 c_p_0
  replace c_p_1 := cell_later hs11 c_p_1
  replace c_p_2 := cell_later hs11 c_p_2
  replace c_q_0 := cell_later hs11 c_q_0
  replace c_q_1 := cell_later hs11 c_q_1
  replace c_q_2 := cell_later hs11 c_q_2
  replace c_by_0 := cell_later hs11 c_by_0
  replace c_by_1 := cell_later hs11 c_by_1
  clear z_by
  have z_by := World.block_lt_of_cell? _ _ c_by_0
  clear z_p
  have z_p := World.block_lt_of_cell? _ _ c_p_0
  clear z_q
  have z_q := World.block_lt_of_cell? _ _ c_q_0
  have hB11 := below_two hB10 hs11
  clear hB10 hs11
  rw [HC.out]
  go_wp2
  go_ret
  exact ⟨rfl, hB11⟩

set_option maxRecDepth 100000 in
set_option maxHeartbeats 4000000 in
theorem signs_no1 (a1 a2 a3 s o M X : Int) (w : World) (hR : Ready w) (HA : Hid (∀ w, Calls Tryd.prog 13 #[pt a1 a2 a3] w fun e w' => e = .returned (pt s 2 o) ∧ Below w.heap.size w w')) (HP : Hid (Pit.right s 2 o = true)) (HQ : Hid (Pit.right s 3 o = false)) (HM : Hid (Pit.num s 2 o = M)) (HL : Hid (Pit.lin s o = X)) (HC : Hid (Pit.cmpP (Pit.right s 2 o && Pit.right s 3 o) s 2 o s 3 o = 0)) :
    Calls Tryd.prog 11 #[pt a1 a2 a3] w fun e w' => e = .returned (.bool true) ∧ Below w.heap.size w w' := by
  have hgP := guardP
  have hgI := guardI
  have heP := eql_pt
  have heI := eql_iv
  have hnP := neq_pt
  have hsP := eqP_self
  have hsI := eqI_self
  have hB0 : Below w.heap.size w w := Below.refl _ _
  go_enter Tryd.func11, Tryd.ntmps11
  go_wp2_with fail
  have hR' := hR.below (hB0.alloc hB0.size (.cells #[.int .i64 a1, .int .i64 a2, .int .i64 a3] 23))
  refine (awake_any _ hR').mono ?_
  rintro e w1 ⟨rfl, hb1⟩
  clear hR'
  have hs1 : Below w.heap.size w w1 := Below.trans (by repeat (first | exact Below.refl _ _ | refine Below.alloc ?_ (by simp <;> omega) _)) (hb1.mono (by simp <;> omega))
  have c_a_0 : w1.cell? ⟨w.heap.size, 0, none⟩ = some (.int .i64 a1) := (hb1.cell (by simp <;> omega)).trans (by go_simp)
  have c_a_1 : w1.cell? ⟨w.heap.size, 1, none⟩ = some (.int .i64 a2) := (hb1.cell (by simp <;> omega)).trans (by go_simp)
  have c_a_2 : w1.cell? ⟨w.heap.size, 2, none⟩ = some (.int .i64 a3) := (hb1.cell (by simp <;> omega)).trans (by go_simp)
  have z_a := World.block_lt_of_cell? _ _ c_a_0
  have hB1 := below_two hB0 hs1
  clear hB0 hs1 hb1
  go_wp2_with fail
  have hR' := hR.below hB1
  refine (HA.out _).mono ?_
  rintro e w2 ⟨rfl, hb2⟩
  clear hR'
  have hs2 := hb2
  clear c_a_0
  clear c_a_1
  clear c_a_2
  clear z_a
  have hB2 := below_two hB1 hs2
  clear hB1 hs2
  go_wp2_with fail
  have hR' := hR.below ((hB2.alloc hB2.size (.cells #[.int .i64 s, .int .i64 2, .int .i64 o] 23)).alloc (hB2.alloc hB2.size (.cells #[.int .i64 s, .int .i64 2, .int .i64 o] 23)).size (.cells #[.int .i64 s, .int .i64 3, .int .i64 o] 23))
  refine (numberE _ _ _ _ hR').mono ?_
  rintro e w3 ⟨rfl, hb3⟩
  clear hR'
  have hs3 : Below w2.heap.size w2 w3 := Below.trans (by repeat (first | exact Below.refl _ _ | refine Below.alloc ?_ (by simp <;> omega) _)) (hb3.mono (by simp <;> omega))
  have c_p_0 : w3.cell? ⟨w2.heap.size, 0, none⟩ = some (.int .i64 s) := (hb3.cell (by simp <;> omega)).trans (by go_simp)
  have c_p_1 : w3.cell? ⟨w2.heap.size, 1, none⟩ = some (.int .i64 2) := (hb3.cell (by simp <;> omega)).trans (by go_simp)
  have c_p_2 : w3.cell? ⟨w2.heap.size, 2, none⟩ = some (.int .i64 o) := (hb3.cell (by simp <;> omega)).trans (by go_simp)
  have c_q_0 : w3.cell? ⟨w2.heap.size + 1, 0, none⟩ = some (.int .i64 s) := (hb3.cell (by simp <;> omega)).trans (by go_simp)
  have c_q_1 : w3.cell? ⟨w2.heap.size + 1, 1, none⟩ = some (.int .i64 3) := (hb3.cell (by simp <;> omega)).trans (by go_simp)
  have c_q_2 : w3.cell? ⟨w2.heap.size + 1, 2, none⟩ = some (.int .i64 o) := (hb3.cell (by simp <;> omega)).trans (by go_simp)
  have z_p := World.block_lt_of_cell? _ _ c_p_0
  have z_q := World.block_lt_of_cell? _ _ c_q_0
  have hB3 := below_two hB2 hs3
  clear hB2 hs3 hb3
  rw [HP.out, HM.out]
  simp only [onlyR, errP, if_true]
  go_wp2_with fail
  have hR' := hR.below hB3
  refine (numberE _ _ _ _ hR').mono ?_
  rintro e w4 ⟨rfl, hb4⟩
  clear hR'
  have hs4 := hb4
  replace c_p_0 := cell_later hs4 c_p_0
  replace c_p_1 := cell_later hs4 c_p_1
  replace c_p_2 := cell_later hs4 c_p_2
  replace c_q_0 := cell_later hs4 c_q_0
  replace c_q_1 := cell_later hs4 c_q_1
  replace c_q_2 := cell_later hs4 c_q_2
  clear z_p
  have z_p := World.block_lt_of_cell? _ _ c_p_0
  clear z_q
  have z_q := World.block_lt_of_cell? _ _ c_q_0
  have hB4 := below_two hB3 hs4
  clear hB3 hs4
  rw [HQ.out]
  simp only [onlyR, errP, if_false, Bool.false_eq_true]
  go_wp2_with fail
  have hR' := hR.below hB4
  refine (lineE _ _ _ _ hR').mono ?_
  rintro e w5 ⟨rfl, hb5⟩
  clear hR'
  have hs5 := hb5
  replace c_p_0 := cell_later hs5 c_p_0
  replace c_p_1 := cell_later hs5 c_p_1
  replace c_p_2 := cell_later hs5 c_p_2
  replace c_q_0 := cell_later hs5 c_q_0
  replace c_q_1 := cell_later hs5 c_q_1
  replace c_q_2 := cell_later hs5 c_q_2
  clear z_p
  have z_p := World.block_lt_of_cell? _ _ c_p_0
  clear z_q
  have z_q := World.block_lt_of_cell? _ _ c_q_0
  have hB5 := below_two hB4 hs5
  clear hB4 hs5
  rw [HP.out, HL.out]
  simp only [onlyR, errP, if_true]
  go_wp2_with fail
  have hR' := hR.below hB5
  refine (lineE _ _ _ _ hR').mono ?_
  rintro e w6 ⟨rfl, hb6⟩
  clear hR'
  have hs6 := hb6
  replace c_p_0 := cell_later hs6 c_p_0
  replace c_p_1 := cell_later hs6 c_p_1
  replace c_p_2 := cell_later hs6 c_p_2
  replace c_q_0 := cell_later hs6 c_q_0
  replace c_q_1 := cell_later hs6 c_q_1
  replace c_q_2 := cell_later hs6 c_q_2
  clear z_p
  have z_p := World.block_lt_of_cell? _ _ c_p_0
  clear z_q
  have z_q := World.block_lt_of_cell? _ _ c_q_0
  have hB6 := below_two hB5 hs6
  clear hB5 hs6
  rw [HQ.out]
  simp only [onlyR, errP, if_false, Bool.false_eq_true]
  go_wp2_with fail
  have hR' := hR.below hB6
  refine (between_any _ _ _ _ _ _ _ hR').mono ?_
  rintro e w7 ⟨rfl, hb7⟩
  clear hR'
  have hs7 := hb7
  replace c_p_0 := cell_later hs7 c_p_0
  replace c_p_1 := cell_later hs7 c_p_1
  replace c_p_2 := cell_later hs7 c_p_2
  replace c_q_0 := cell_later hs7 c_q_0
  replace c_q_1 := cell_later hs7 c_q_1
  replace c_q_2 := cell_later hs7 c_q_2
  clear z_p
  have z_p := World.block_lt_of_cell? _ _ c_p_0
  clear z_q
  have z_q := World.block_lt_of_cell? _ _ c_q_0
  have hB7 := below_two hB6 hs7
  clear hB6 hs7
  rw [HP.out, HQ.out]
  simp only [Bool.and_false, btS, btH, errP, if_false, Bool.false_eq_true]
  go_wp2_with fail
  have hs8 : Below w7.heap.size w7 (w7.alloc (.cells #[.int .i64 0, .int .i64 0] 25)) := by repeat (first | exact Below.refl _ _ | refine Below.alloc ?_ (by simp <;> omega) _)
  replace c_p_0 := cell_later hs8 c_p_0
  replace c_p_1 := cell_later hs8 c_p_1
  replace c_p_2 := cell_later hs8 c_p_2
  replace c_q_0 := cell_later hs8 c_q_0
  replace c_q_1 := cell_later hs8 c_q_1
  replace c_q_2 := cell_later hs8 c_q_2
  have c_by_0 : (w7.alloc (.cells #[.int .i64 0, .int .i64 0] 25)).cell? ⟨w7.heap.size, 0, none⟩ = some (.int .i64 0) := by go_simp
  have c_by_1 : (w7.alloc (.cells #[.int .i64 0, .int .i64 0] 25)).cell? ⟨w7.heap.size, 1, none⟩ = some (.int .i64 0) := by go_simp
  have hB8 := below_two hB7 hs8
  clear hB7 hs8
  have y8_p := z_p
  have y8_q := z_q
  generalize (w7.alloc (.cells #[.int .i64 0, .int .i64 0] 25)) = w8 at *
  have z_by := World.block_lt_of_cell? _ _ c_by_0
  clear z_p
  have z_p := World.block_lt_of_cell? _ _ c_p_0
  clear z_q
  have z_q := World.block_lt_of_cell? _ _ c_q_0
  have QB : Hid (∀ d os, Below w.heap.size w (Go.Sort.grow (redrawn w8 d) os)) := Lib.hid (fun d os => below_two hB8 (below_regrown w8 d os))
  have g_c_p_0 := fun d os => cell_regrown c_p_0 d os
  have g_c_p_1 := fun d os => cell_regrown c_p_1 d os
  have g_c_p_2 := fun d os => cell_regrown c_p_2 d os
  have g_c_q_0 := fun d os => cell_regrown c_q_0 d os
  have g_c_q_1 := fun d os => cell_regrown c_q_1 d os
  have g_c_q_2 := fun d os => cell_regrown c_q_2 d os
  have g_c_by_0 := fun d os => cell_regrown c_by_0 d os
  have g_c_by_1 := fun d os => cell_regrown c_by_1 d os
  have q0 : Hid (∀ d os, Calls Tryd.prog 20 #[pt s 3 o] (Go.Sort.grow (redrawn w8 d) os) fun e w'' => e = .returned (.bool false) ∧ ∃ p : Regrown, w'' = Go.Sort.grow (redrawn w8 p.d) p.os) := Lib.hid (fun d os => Calls.regrown_of (right_no HQ.out _ (hR.below (QB.out d os))))
  refine wp_region_quiet_below (by kernel_rfl) (by kernel_rfl) ?_
  repeat (quiet_step (first | exact q0.out _ _))
  refine wpQuiet_nil ?_
  intro _ hw'
  obtain ⟨⟨dq, osq⟩, hw''⟩ := hw'
  subst hw''
  replace c_p_0 := g_c_p_0 dq osq
  clear g_c_p_0
  replace c_p_1 := g_c_p_1 dq osq
  clear g_c_p_1
  replace c_p_2 := g_c_p_2 dq osq
  clear g_c_p_2
  replace c_q_0 := g_c_q_0 dq osq
  clear g_c_q_0
  replace c_q_1 := g_c_q_1 dq osq
  clear g_c_q_1
  replace c_q_2 := g_c_q_2 dq osq
  clear g_c_q_2
  replace c_by_0 := g_c_by_0 dq osq
  clear g_c_by_0
  replace c_by_1 := g_c_by_1 dq osq
  clear g_c_by_1
  clear q0
  have hB9 := QB.out dq osq
  clear QB hB8 z_by z_p z_q
  generalize Go.Sort.grow (redrawn w8 dq) osq = w9 at *
  have z_by := World.block_lt_of_cell? _ _ c_by_0
  have z_p := World.block_lt_of_cell? _ _ c_p_0
  have z_q := World.block_lt_of_cell? _ _ c_q_0
  go_wp2_with fail
  have hR' := hR.below hB9
  refine (right_any _ _ _ _ hR').mono ?_
  rintro e w10 ⟨rfl, hb10⟩
  clear hR'
  have hs10 := hb10
  replace c_p_0 := cell_later hs10 c_p_0
  replace c_p_1 := cell_later hs10 c_p_1
  replace c_p_2 := cell_later hs10 c_p_2
  replace c_q_0 := cell_later hs10 c_q_0
  replace c_q_1 := cell_later hs10 c_q_1
  replace c_q_2 := cell_later hs10 c_q_2
  replace c_by_0 := cell_later hs10 c_by_0
  replace c_by_1 := cell_later hs10 c_by_1
  clear z_by
  have z_by := World.block_lt_of_cell? _ _ c_by_0
  clear z_p
  have z_p := World.block_lt_of_cell? _ _ c_p_0
  clear z_q
  have z_q := World.block_lt_of_cell? _ _ c_q_0
  have hB10 := below_two hB9 hs10
  clear hB9 hs10
  rw [HQ.out]
  go_wp2_with fail
  have hR' := hR.below hB10
  refine (compare_any _ _ _ _ _ _ _ hR').mono ?_
  rintro e w11 ⟨rfl, hb11⟩
  clear hR'
  have hs11 := hb11
  replace c_p_0 := cell_later hs11 c_p_0
  replace c_p_1 := cell_later hs11 c_p_1
  replace c_p_2 := cell_later hs11 c_p_2
  replace c_q_0 := cell_later hs11 c_q_0
  replace c_q_1 := cell_later hs11 c_q_1
  replace c_q_2 := cell_later hs11 c_q_2
  replace c_by_0 := cell_later hs11 c_by_0
  replace c_by_1 := cell_later hs11 c_by_1
  clear z_by
  have z_by := World.block_lt_of_cell? _ _ c_by_0
  clear z_p
  have z_p := World.block_lt_of_cell? _ _ c_p_0
  clear z_q
  have z_q := World.block_lt_of_cell? _ _ c_q_0
  have hB11 := below_two hB10 hs11
  clear hB10 hs11
  rw [HC.out]
  go_wp2
  go_ret
  exact ⟨rfl, hB11⟩

set_option maxRecDepth 100000 in
set_option maxHeartbeats 4000000 in
theorem signs_no2 (a1 a2 a3 s b c o X : Int) (w : World) (hR : Ready w) (HA : Hid (∀ w, Calls Tryd.prog 13 #[pt a1 a2 a3] w fun e w' => e = .returned (pt s b o) ∧ Below w.heap.size w w')) (hbc : b + 1 = c) (hb0 : -2 ≤ b) (hb2 : b ≤ 2) (HP : Hid (Pit.right s b o = true)) (HQ : Hid (Pit.right s c o = false)) (HM : Hid (Pit.num s b o = 127)) (HL : Hid (Pit.lin s o = X)) (hb3 : b < 2) (HC : Hid (Pit.cmpP (Pit.right s b o && Pit.right s c o) s b o s c o = 0)) :
    Calls Tryd.prog 11 #[pt a1 a2 a3] w fun e w' => e = .returned (.bool true) ∧ Below w.heap.size w w' := by
  have hgP := guardP
  have hgI := guardI
  have heP := eql_pt
  have heI := eql_iv
  have hnP := neq_pt
  have hsP := eqP_self
  have hsI := eqI_self
  have hB0 : Below w.heap.size w w := Below.refl _ _
  go_enter Tryd.func11, Tryd.ntmps11
  go_wp2_with fail
  have hR' := hR.below (hB0.alloc hB0.size (.cells #[.int .i64 a1, .int .i64 a2, .int .i64 a3] 23))
  refine (awake_any _ hR').mono ?_
  rintro e w1 ⟨rfl, hb1⟩
  clear hR'
  have hs1 : Below w.heap.size w w1 := Below.trans (by repeat (first | exact Below.refl _ _ | refine Below.alloc ?_ (by simp <;> omega) _)) (hb1.mono (by simp <;> omega))
  have c_a_0 : w1.cell? ⟨w.heap.size, 0, none⟩ = some (.int .i64 a1) := (hb1.cell (by simp <;> omega)).trans (by go_simp)
  have c_a_1 : w1.cell? ⟨w.heap.size, 1, none⟩ = some (.int .i64 a2) := (hb1.cell (by simp <;> omega)).trans (by go_simp)
  have c_a_2 : w1.cell? ⟨w.heap.size, 2, none⟩ = some (.int .i64 a3) := (hb1.cell (by simp <;> omega)).trans (by go_simp)
  have z_a := World.block_lt_of_cell? _ _ c_a_0
  have hB1 := below_two hB0 hs1
  clear hB0 hs1 hb1
  go_wp2_with fail
  have hR' := hR.below hB1
  refine (HA.out _).mono ?_
  rintro e w2 ⟨rfl, hb2⟩
  clear hR'
  have hs2 := hb2
  clear c_a_0
  clear c_a_1
  clear c_a_2
  clear z_a
  have hB2 := below_two hB1 hs2
  clear hB1 hs2
  go_wp2_with fail
  have hR' := hR.below ((hB2.alloc hB2.size (.cells #[.int .i64 s, .int .i64 b, .int .i64 o] 23)).alloc (hB2.alloc hB2.size (.cells #[.int .i64 s, .int .i64 b, .int .i64 o] 23)).size (.cells #[.int .i64 s, .int .i64 c, .int .i64 o] 23))
  refine (numberE _ _ _ _ hR').mono ?_
  rintro e w3 ⟨rfl, hb3⟩
  clear hR'
  have hs3 : Below w2.heap.size w2 w3 := Below.trans (by repeat (first | exact Below.refl _ _ | refine Below.alloc ?_ (by simp <;> omega) _)) (hb3.mono (by simp <;> omega))
  have c_p_0 : w3.cell? ⟨w2.heap.size, 0, none⟩ = some (.int .i64 s) := (hb3.cell (by simp <;> omega)).trans (by go_simp)
  have c_p_1 : w3.cell? ⟨w2.heap.size, 1, none⟩ = some (.int .i64 b) := (hb3.cell (by simp <;> omega)).trans (by go_simp)
  have c_p_2 : w3.cell? ⟨w2.heap.size, 2, none⟩ = some (.int .i64 o) := (hb3.cell (by simp <;> omega)).trans (by go_simp)
  have c_q_0 : w3.cell? ⟨w2.heap.size + 1, 0, none⟩ = some (.int .i64 s) := (hb3.cell (by simp <;> omega)).trans (by go_simp)
  have c_q_1 : w3.cell? ⟨w2.heap.size + 1, 1, none⟩ = some (.int .i64 c) := (hb3.cell (by simp <;> omega)).trans (by go_simp)
  have c_q_2 : w3.cell? ⟨w2.heap.size + 1, 2, none⟩ = some (.int .i64 o) := (hb3.cell (by simp <;> omega)).trans (by go_simp)
  have z_p := World.block_lt_of_cell? _ _ c_p_0
  have z_q := World.block_lt_of_cell? _ _ c_q_0
  have hB3 := below_two hB2 hs3
  clear hB2 hs3 hb3
  rw [HP.out, HM.out]
  simp only [onlyR, errP, if_true]
  go_wp2_with fail
  have hR' := hR.below hB3
  refine (numberE _ _ _ _ hR').mono ?_
  rintro e w4 ⟨rfl, hb4⟩
  clear hR'
  have hs4 := hb4
  replace c_p_0 := cell_later hs4 c_p_0
  replace c_p_1 := cell_later hs4 c_p_1
  replace c_p_2 := cell_later hs4 c_p_2
  replace c_q_0 := cell_later hs4 c_q_0
  replace c_q_1 := cell_later hs4 c_q_1
  replace c_q_2 := cell_later hs4 c_q_2
  clear z_p
  have z_p := World.block_lt_of_cell? _ _ c_p_0
  clear z_q
  have z_q := World.block_lt_of_cell? _ _ c_q_0
  have hB4 := below_two hB3 hs4
  clear hB3 hs4
  rw [HQ.out]
  simp only [onlyR, errP, if_false, Bool.false_eq_true]
  go_wp2_with fail
  have hR' := hR.below hB4
  refine (lineE _ _ _ _ hR').mono ?_
  rintro e w5 ⟨rfl, hb5⟩
  clear hR'
  have hs5 := hb5
  replace c_p_0 := cell_later hs5 c_p_0
  replace c_p_1 := cell_later hs5 c_p_1
  replace c_p_2 := cell_later hs5 c_p_2
  replace c_q_0 := cell_later hs5 c_q_0
  replace c_q_1 := cell_later hs5 c_q_1
  replace c_q_2 := cell_later hs5 c_q_2
  clear z_p
  have z_p := World.block_lt_of_cell? _ _ c_p_0
  clear z_q
  have z_q := World.block_lt_of_cell? _ _ c_q_0
  have hB5 := below_two hB4 hs5
  clear hB4 hs5
  rw [HP.out, HL.out]
  simp only [onlyR, errP, if_true]
  go_wp2_with fail
  have hR' := hR.below hB5
  refine (lineE _ _ _ _ hR').mono ?_
  rintro e w6 ⟨rfl, hb6⟩
  clear hR'
  have hs6 := hb6
  replace c_p_0 := cell_later hs6 c_p_0
  replace c_p_1 := cell_later hs6 c_p_1
  replace c_p_2 := cell_later hs6 c_p_2
  replace c_q_0 := cell_later hs6 c_q_0
  replace c_q_1 := cell_later hs6 c_q_1
  replace c_q_2 := cell_later hs6 c_q_2
  clear z_p
  have z_p := World.block_lt_of_cell? _ _ c_p_0
  clear z_q
  have z_q := World.block_lt_of_cell? _ _ c_q_0
  have hB6 := below_two hB5 hs6
  clear hB5 hs6
  rw [HQ.out]
  simp only [onlyR, errP, if_false, Bool.false_eq_true]
  go_wp2_with fail
  have hR' := hR.below hB6
  refine (between_any _ _ _ _ _ _ _ hR').mono ?_
  rintro e w7 ⟨rfl, hb7⟩
  clear hR'
  have hs7 := hb7
  replace c_p_0 := cell_later hs7 c_p_0
  replace c_p_1 := cell_later hs7 c_p_1
  replace c_p_2 := cell_later hs7 c_p_2
  replace c_q_0 := cell_later hs7 c_q_0
  replace c_q_1 := cell_later hs7 c_q_1
  replace c_q_2 := cell_later hs7 c_q_2
  clear z_p
  have z_p := World.block_lt_of_cell? _ _ c_p_0
  clear z_q
  have z_q := World.block_lt_of_cell? _ _ c_q_0
  have hB7 := below_two hB6 hs7
  clear hB6 hs7
  rw [HP.out, HQ.out]
  simp only [Bool.and_false, btS, btH, errP, if_false, Bool.false_eq_true]
  go_wp2_with fail
  have hs8 : Below w7.heap.size w7 (w7.alloc (.cells #[.int .i64 0, .int .i64 0] 25)) := by repeat (first | exact Below.refl _ _ | refine Below.alloc ?_ (by simp <;> omega) _)
  replace c_p_0 := cell_later hs8 c_p_0
  replace c_p_1 := cell_later hs8 c_p_1
  replace c_p_2 := cell_later hs8 c_p_2
  replace c_q_0 := cell_later hs8 c_q_0
  replace c_q_1 := cell_later hs8 c_q_1
  replace c_q_2 := cell_later hs8 c_q_2
  have c_by_0 : (w7.alloc (.cells #[.int .i64 0, .int .i64 0] 25)).cell? ⟨w7.heap.size, 0, none⟩ = some (.int .i64 0) := by go_simp
  have c_by_1 : (w7.alloc (.cells #[.int .i64 0, .int .i64 0] 25)).cell? ⟨w7.heap.size, 1, none⟩ = some (.int .i64 0) := by go_simp
  have hB8 := below_two hB7 hs8
  clear hB7 hs8
  have y8_p := z_p
  have y8_q := z_q
  generalize (w7.alloc (.cells #[.int .i64 0, .int .i64 0] 25)) = w8 at *
  have z_by := World.block_lt_of_cell? _ _ c_by_0
  clear z_p
  have z_p := World.block_lt_of_cell? _ _ c_p_0
  clear z_q
  have z_q := World.block_lt_of_cell? _ _ c_q_0
  have QB : Hid (∀ d os, Below w.heap.size w (Go.Sort.grow (redrawn w8 d) os)) := Lib.hid (fun d os => below_two hB8 (below_regrown w8 d os))
  have g_c_p_0 := fun d os => cell_regrown c_p_0 d os
  have g_c_p_1 := fun d os => cell_regrown c_p_1 d os
  have g_c_p_2 := fun d os => cell_regrown c_p_2 d os
  have g_c_q_0 := fun d os => cell_regrown c_q_0 d os
  have g_c_q_1 := fun d os => cell_regrown c_q_1 d os
  have g_c_q_2 := fun d os => cell_regrown c_q_2 d os
  have g_c_by_0 := fun d os => cell_regrown c_by_0 d os
  have g_c_by_1 := fun d os => cell_regrown c_by_1 d os
  have q0 : Hid (∀ d os, Calls Tryd.prog 20 #[pt s c o] (Go.Sort.grow (redrawn w8 d) os) fun e w'' => e = .returned (.bool false) ∧ ∃ p : Regrown, w'' = Go.Sort.grow (redrawn w8 p.d) p.os) := Lib.hid (fun d os => Calls.regrown_of (right_no HQ.out _ (hR.below (QB.out d os))))
  refine wp_region_quiet_below (by kernel_rfl) (by kernel_rfl) ?_
  repeat (quiet_step (first | exact q0.out _ _))
  refine wpQuiet_nil ?_
  intro _ hw'
  obtain ⟨⟨dq, osq⟩, hw''⟩ := hw'
  subst hw''
  replace c_p_0 := g_c_p_0 dq osq
  clear g_c_p_0
  replace c_p_1 := g_c_p_1 dq osq
  clear g_c_p_1
  replace c_p_2 := g_c_p_2 dq osq
  clear g_c_p_2
  replace c_q_0 := g_c_q_0 dq osq
  clear g_c_q_0
  replace c_q_1 := g_c_q_1 dq osq
  clear g_c_q_1
  replace c_q_2 := g_c_q_2 dq osq
  clear g_c_q_2
  replace c_by_0 := g_c_by_0 dq osq
  clear g_c_by_0
  replace c_by_1 := g_c_by_1 dq osq
  clear g_c_by_1
  clear q0
  have hB9 := QB.out dq osq
  clear QB hB8 z_by z_p z_q
  generalize Go.Sort.grow (redrawn w8 dq) osq = w9 at *
  have z_by := World.block_lt_of_cell? _ _ c_by_0
  have z_p := World.block_lt_of_cell? _ _ c_p_0
  have z_q := World.block_lt_of_cell? _ _ c_q_0
  go_wp2_with fail
  have hR' := hR.below hB9
  refine (right_any _ _ _ _ hR').mono ?_
  rintro e w10 ⟨rfl, hb10⟩
  clear hR'
  have hs10 := hb10
  replace c_p_0 := cell_later hs10 c_p_0
  replace c_p_1 := cell_later hs10 c_p_1
  replace c_p_2 := cell_later hs10 c_p_2
  replace c_q_0 := cell_later hs10 c_q_0
  replace c_q_1 := cell_later hs10 c_q_1
  replace c_q_2 := cell_later hs10 c_q_2
  replace c_by_0 := cell_later hs10 c_by_0
  replace c_by_1 := cell_later hs10 c_by_1
  clear z_by
  have z_by := World.block_lt_of_cell? _ _ c_by_0
  clear z_p
  have z_p := World.block_lt_of_cell? _ _ c_p_0
  clear z_q
  have z_q := World.block_lt_of_cell? _ _ c_q_0
  have hB10 := below_two hB9 hs10
  clear hB9 hs10
  rw [HQ.out]
  go_wp2_with fail
  have hR' := hR.below hB10
  refine (compare_any _ _ _ _ _ _ _ hR').mono ?_
  rintro e w11 ⟨rfl, hb11⟩
  clear hR'
  have hs11 := hb11
  replace c_p_0 := cell_later hs11 c_p_0
  replace c_p_1 := cell_later hs11 c_p_1
  replace c_p_2 := cell_later hs11 c_p_2
  replace c_q_0 := cell_later hs11 c_q_0
  replace c_q_1 := cell_later hs11 c_q_1
  replace c_q_2 := cell_later hs11 c_q_2
  replace c_by_0 := cell_later hs11 c_by_0
  replace c_by_1 := cell_later hs11 c_by_1
  clear z_by
  have z_by := World.block_lt_of_cell? _ _ c_by_0
  clear z_p
  have z_p := World.block_lt_of_cell? _ _ c_p_0
  clear z_q
  have z_q := World.block_lt_of_cell? _ _ c_q_0
  have hB11 := below_two hB10 hs11
  clear hB10 hs11
  rw [HC.out]
  go_wp2
  go_ret
  exact ⟨rfl, hB11⟩

theorem pitchSigns_calls (a1 a2 a3 : Int) (h1 : Pit.I64 a1) (h2 : Pit.I64 a2) (h3 : Pit.I64 a3) (w : World) (hR : Ready w) : LawHolds 11 #[pt a1 a2 a3] w := by
  obtain ⟨s, b, o, hr, hA⟩ := pitch_fix a1 a2 a3 h1 h2 h3
  have hp := Pit.right_true hr
  obtain ⟨g0, g1, g2, g3, g4, g5, g6, g7⟩ := hr.all
  have hn : Pit.num s (b + 1) o = Pit.num s b o + 1 := by simp only [Pit.num_eq]; omega
  have n0 := hr.n0
  have nM := hr.nM
  by_cases hb3 : b < 2
  · by_cases hM1 : Pit.num s b o < 127
    · have hq : Pit.right s (b + 1) o = true := Pit.right_true ⟨g0, g1, by omega, by omega, g4, g5, by omega, by omega⟩
      have hc : Pit.cmpP (Pit.right s b o && Pit.right s (b + 1) o) s b o s (b + 1) o = -1 := by
        rw [hp, hq]
        show Pit.cmp2 _ _ _ _ = -1
        rcases Pit.cmp2_cases (Pit.num s b o) (Pit.num s (b + 1) o) (Pit.lin s o) (Pit.lin s o) with ⟨_, e⟩ | ⟨_, _, e⟩ | ⟨_, e⟩ <;> first | exact e | (exfalso; omega)
      exact signs_yes a1 a2 a3 s b (b + 1) o _ _ w hR (Lib.hid hA) rfl g2 g3 n0 nM (Lib.hid hp) (Lib.hid hq) (Lib.hid rfl) (Lib.hid rfl) hb3 hM1 (Lib.hid hn) (Lib.hid hc)
    · have hq : Pit.right s (b + 1) o = false := Pit.right_false fun h => by have := h.nM; omega
      exact signs_no2 a1 a2 a3 s b (b + 1) o _ w hR (Lib.hid hA) rfl g2 g3 (Lib.hid hp) (Lib.hid hq) (Lib.hid (by omega)) (Lib.hid rfl) hb3 (Lib.hid (by rw [hp, hq]; rfl))
  · have hq : Pit.right s (b + 1) o = false := Pit.right_false fun h => by have := h.a2; omega
    obtain rfl : b = 2 := by omega
    exact signs_no1 a1 a2 a3 s o _ _ w hR (Lib.hid hA) (Lib.hid hp) (Lib.hid hq) (Lib.hid rfl) (Lib.hid rfl) (Lib.hid (by rw [hp, show (3 : Int) = 2 + 1 from rfl, hq]; rfl))
end Go.Proofs.YtoopchnncjfjoaaDoor
