/-
  ValueFinds answers true.
-/
import Derived.Test.YtejiifkenanodaaGreatDoorValL
import Derived.Test.YtejiifkenanodaaGreatDoorValFacts
namespace Go.Proofs.YtejiifkenanodaaGreatDoor
open Go.RowKit

set_option maxRecDepth 100000 in
set_option maxHeartbeats 4000000 in
theorem valueFinds_fs (b d n e l k : Int) (w : World) (hR : Vars w) (B D N E : Int) (HV : Hid (∀ w, Calls Tryz.prog 14 #[vl b d n e] w fun ed w' => ed = .returned (vl B D N E) ∧ Below w.heap.size w w')) (f0 f1 f2 f3 : Int) (HF : Hid (∀ w, Vars w → Calls Tryz.prog 27 #[rt l k] w fun ed w' => ed = .returned (.tuple #[vl f0 f1 f2 f3, .bool true]) ∧ Below w.heap.size w w')) (HL : Hid (∀ w, Vars w → Calls Tryz.prog 15 #[vl f0 f1 f2 f3] w fun ed w' => ed = .returned (rv l k 0) ∧ Below w.heap.size w w')) (HR : Hid (∀ w, Calls Tryz.prog 19 #[vl f0 f1 f2 f3] w fun ed w' => ed = .returned (.bool true) ∧ Below w.heap.size w w')) (aN aD bN bD : Int) (HA : Hid (∀ w, Vars w → Calls Tryz.prog 15 #[vl B D 0 0] w fun ed w' => ed = .returned (rv aN aD 0) ∧ Below w.heap.size w w')) (HG : Hid (∀ w, Vars w → Calls Tryz.prog 27 #[rt aN aD] w fun ed w' => ed = .returned (.tuple #[vl B D 0 0, .bool true]) ∧ Below w.heap.size w w')) (HB : Hid (∀ w, Vars w → Calls Tryz.prog 15 #[vl B D 3 2] w fun ed w' => ed = .returned (rv bN bD 0) ∧ Below w.heap.size w w')) (HH : Hid (∀ w, Vars w → Calls Tryz.prog 27 #[rt bN bD] w fun ed w' => ed = .returned (.tuple #[vl B D 3 2, .bool true]) ∧ Below w.heap.size w w')) :
    Calls Tryz.prog 6 #[vl b d n e, rt l k] w fun ed w' => ed = .returned (.bool true) ∧ Below w.heap.size w w' := by
  have hgR := guardR
  have hgV := guardV
  have heR := eql_rt
  have heV := eql_vl
  have hnR := neq_rt
  have hnV := neq_vl
  have hsR := eqR_self
  have hsV := eqV_self
  have hB0 : Below w.heap.size w w := Below.refl _ _
  go_enter Tryz.func6, Tryz.ntmps6
  go_wp2_with fail
  have hR' := hR.below ((hB0.alloc hB0.size (.cells #[.int .i64 b, .int .i64 d, .int .i64 n, .int .i64 e] 23)).alloc (hB0.alloc hB0.size (.cells #[.int .i64 b, .int .i64 d, .int .i64 n, .int .i64 e] 23)).size (.cells #[.int .i64 l, .int .i64 k] 25))
  refine (examples_any _ hR').mono ?_
  rintro e w1 ⟨rfl, hb1⟩
  clear hR'
  have hs1 : Below w.heap.size w w1 := Below.trans (by repeat (first | exact Below.refl _ _ | refine Below.alloc ?_ (by simp <;> omega) _)) (hb1.mono (by simp <;> omega))
  have c_v_0 : w1.cell? ⟨w.heap.size, 0, none⟩ = some (.int .i64 b) := (hb1.cell (by simp <;> omega)).trans (by go_simp)
  have c_v_1 : w1.cell? ⟨w.heap.size, 1, none⟩ = some (.int .i64 d) := (hb1.cell (by simp <;> omega)).trans (by go_simp)
  have c_v_2 : w1.cell? ⟨w.heap.size, 2, none⟩ = some (.int .i64 n) := (hb1.cell (by simp <;> omega)).trans (by go_simp)
  have c_v_3 : w1.cell? ⟨w.heap.size, 3, none⟩ = some (.int .i64 e) := (hb1.cell (by simp <;> omega)).trans (by go_simp)
  have c_l_0 : w1.cell? ⟨w.heap.size + 1, 0, none⟩ = some (.int .i64 l) := (hb1.cell (by simp <;> omega)).trans (by go_simp)
  have c_l_1 : w1.cell? ⟨w.heap.size + 1, 1, none⟩ = some (.int .i64 k) := (hb1.cell (by simp <;> omega)).trans (by go_simp)
  have z_l := World.block_lt_of_cell? _ _ c_l_0
  have z_v := World.block_lt_of_cell? _ _ c_v_0
  have hB1 := below_two hB0 hs1
  clear hB0 hs1 hb1
  go_wp2_with fail
  have hR' := hR.below hB1
  refine (HF.out _ hR').mono ?_
  rintro e w2 ⟨rfl, hb2⟩
  clear hR'
  have hs2 := hb2
  replace c_v_0 := cell_later hs2 c_v_0
  replace c_v_1 := cell_later hs2 c_v_1
  replace c_v_2 := cell_later hs2 c_v_2
  replace c_v_3 := cell_later hs2 c_v_3
  replace c_l_0 := cell_later hs2 c_l_0
  replace c_l_1 := cell_later hs2 c_l_1
  clear z_l
  have z_l := World.block_lt_of_cell? _ _ c_l_0
  clear z_v
  have z_v := World.block_lt_of_cell? _ _ c_v_0
  have hB2 := below_two hB1 hs2
  clear hB1 hs2
  go_wp2_with fail
  have hR' := hR.below (hB2.alloc hB2.size (.cells #[.int .i64 f0, .int .i64 f1, .int .i64 f2, .int .i64 f3] 23))
  refine (HL.out _ hR').mono ?_
  rintro e w3 ⟨rfl, hb3⟩
  clear hR'
  have hs3 : Below w2.heap.size w2 w3 := Below.trans (by repeat (first | exact Below.refl _ _ | refine Below.alloc ?_ (by simp <;> omega) _)) (hb3.mono (by simp <;> omega))
  replace c_v_0 := cell_later hs3 c_v_0
  replace c_v_1 := cell_later hs3 c_v_1
  replace c_v_2 := cell_later hs3 c_v_2
  replace c_v_3 := cell_later hs3 c_v_3
  replace c_l_0 := cell_later hs3 c_l_0
  replace c_l_1 := cell_later hs3 c_l_1
  have c_f_0 : w3.cell? ⟨w2.heap.size, 0, none⟩ = some (.int .i64 f0) := (hb3.cell (by simp <;> omega)).trans (by go_simp)
  have c_f_1 : w3.cell? ⟨w2.heap.size, 1, none⟩ = some (.int .i64 f1) := (hb3.cell (by simp <;> omega)).trans (by go_simp)
  have c_f_2 : w3.cell? ⟨w2.heap.size, 2, none⟩ = some (.int .i64 f2) := (hb3.cell (by simp <;> omega)).trans (by go_simp)
  have c_f_3 : w3.cell? ⟨w2.heap.size, 3, none⟩ = some (.int .i64 f3) := (hb3.cell (by simp <;> omega)).trans (by go_simp)
  have z_f := World.block_lt_of_cell? _ _ c_f_0
  clear z_l
  have z_l := World.block_lt_of_cell? _ _ c_l_0
  clear z_v
  have z_v := World.block_lt_of_cell? _ _ c_v_0
  have hB3 := below_two hB2 hs3
  clear hB2 hs3 hb3
  go_wp2_with fail
  have hR' := hR.below (hB3.alloc hB3.size (.cells #[.int .i64 l, .int .i64 k] 25))
  refine (HR.out _).mono ?_
  rintro e w4 ⟨rfl, hb4⟩
  clear hR'
  have hs4 : Below w3.heap.size w3 w4 := Below.trans (by repeat (first | exact Below.refl _ _ | refine Below.alloc ?_ (by simp <;> omega) _)) (hb4.mono (by simp <;> omega))
  clear c_l_0
  clear c_l_1
  clear c_f_0
  clear c_f_1
  clear c_f_2
  clear c_f_3
  replace c_v_0 := cell_later hs4 c_v_0
  replace c_v_1 := cell_later hs4 c_v_1
  replace c_v_2 := cell_later hs4 c_v_2
  replace c_v_3 := cell_later hs4 c_v_3
  clear z_v
  have z_v := World.block_lt_of_cell? _ _ c_v_0
  clear z_f
  clear z_l
  have hB4 := below_two hB3 hs4
  clear hB3 hs4 hb4
  go_wp2_with fail
  have hR' := hR.below hB4
  refine (HV.out _).mono ?_
  rintro e w5 ⟨rfl, hb5⟩
  clear hR'
  have hs5 := hb5
  clear c_v_0
  clear c_v_1
  clear c_v_2
  clear c_v_3
  clear z_v
  have hB5 := below_two hB4 hs5
  clear hB4 hs5
  go_wp2_with fail
  have hR' := hR.below ((hB5.alloc hB5.size (.cells #[.int .i64 B, .int .i64 D, .int .i64 N, .int .i64 E] 23)).alloc (hB5.alloc hB5.size (.cells #[.int .i64 B, .int .i64 D, .int .i64 N, .int .i64 E] 23)).size (.cells #[.int .i64 B, .int .i64 D, .int .i64 0, .int .i64 0] 23))
  refine (HA.out _ hR').mono ?_
  rintro e w6 ⟨rfl, hb6⟩
  clear hR'
  have hs6 : Below w5.heap.size w5 w6 := Below.trans (by repeat (first | exact Below.refl _ _ | refine Below.alloc ?_ (by simp <;> omega) _)) (hb6.mono (by simp <;> omega))
  have c_p_0 : w6.cell? ⟨w5.heap.size + 1, 0, none⟩ = some (.int .i64 B) := (hb6.cell (by simp <;> omega)).trans (by go_simp)
  have c_p_1 : w6.cell? ⟨w5.heap.size + 1, 1, none⟩ = some (.int .i64 D) := (hb6.cell (by simp <;> omega)).trans (by go_simp)
  have c_p_2 : w6.cell? ⟨w5.heap.size + 1, 2, none⟩ = some (.int .i64 0) := (hb6.cell (by simp <;> omega)).trans (by go_simp)
  have c_p_3 : w6.cell? ⟨w5.heap.size + 1, 3, none⟩ = some (.int .i64 0) := (hb6.cell (by simp <;> omega)).trans (by go_simp)
  have z_p := World.block_lt_of_cell? _ _ c_p_0
  have hB6 := below_two hB5 hs6
  clear hB5 hs6 hb6
  go_wp2_with fail
  have hR' := hR.below (hB6.alloc hB6.size (.cells #[.int .i64 aN, .int .i64 aD] 25))
  refine (HG.out _ hR').mono ?_
  rintro e w7 ⟨rfl, hb7⟩
  clear hR'
  have hs7 : Below w6.heap.size w6 w7 := Below.trans (by repeat (first | exact Below.refl _ _ | refine Below.alloc ?_ (by simp <;> omega) _)) (hb7.mono (by simp <;> omega))
  replace c_p_0 := cell_later hs7 c_p_0
  replace c_p_1 := cell_later hs7 c_p_1
  replace c_p_2 := cell_later hs7 c_p_2
  replace c_p_3 := cell_later hs7 c_p_3
  clear z_p
  have z_p := World.block_lt_of_cell? _ _ c_p_0
  have hB7 := below_two hB6 hs7
  clear hB6 hs7 hb7
  go_wp2_with fail
  have hR' := hR.below ((hB7.alloc hB7.size (.cells #[.int .i64 B, .int .i64 D, .int .i64 0, .int .i64 0] 23)).alloc (hB7.alloc hB7.size (.cells #[.int .i64 B, .int .i64 D, .int .i64 0, .int .i64 0] 23)).size (.cells #[.int .i64 B, .int .i64 D, .int .i64 3, .int .i64 2] 23))
  refine (HB.out _ hR').mono ?_
  rintro e w8 ⟨rfl, hb8⟩
  clear hR'
  have hs8 : Below w7.heap.size w7 w8 := Below.trans (by repeat (first | exact Below.refl _ _ | refine Below.alloc ?_ (by simp <;> omega) _)) (hb8.mono (by simp <;> omega))
  replace c_p_0 := cell_later hs8 c_p_0
  replace c_p_1 := cell_later hs8 c_p_1
  replace c_p_2 := cell_later hs8 c_p_2
  replace c_p_3 := cell_later hs8 c_p_3
  have c_q_0 : w8.cell? ⟨w7.heap.size, 0, none⟩ = some (.int .i64 B) := (hb8.cell (by simp <;> omega)).trans (by go_simp)
  have c_q_1 : w8.cell? ⟨w7.heap.size, 1, none⟩ = some (.int .i64 D) := (hb8.cell (by simp <;> omega)).trans (by go_simp)
  have c_q_2 : w8.cell? ⟨w7.heap.size, 2, none⟩ = some (.int .i64 0) := (hb8.cell (by simp <;> omega)).trans (by go_simp)
  have c_q_3 : w8.cell? ⟨w7.heap.size, 3, none⟩ = some (.int .i64 0) := (hb8.cell (by simp <;> omega)).trans (by go_simp)
  have c_t_0 : w8.cell? ⟨w7.heap.size + 1, 0, none⟩ = some (.int .i64 B) := (hb8.cell (by simp <;> omega)).trans (by go_simp)
  have c_t_1 : w8.cell? ⟨w7.heap.size + 1, 1, none⟩ = some (.int .i64 D) := (hb8.cell (by simp <;> omega)).trans (by go_simp)
  have c_t_2 : w8.cell? ⟨w7.heap.size + 1, 2, none⟩ = some (.int .i64 3) := (hb8.cell (by simp <;> omega)).trans (by go_simp)
  have c_t_3 : w8.cell? ⟨w7.heap.size + 1, 3, none⟩ = some (.int .i64 2) := (hb8.cell (by simp <;> omega)).trans (by go_simp)
  clear z_p
  have z_p := World.block_lt_of_cell? _ _ c_p_0
  have z_q := World.block_lt_of_cell? _ _ c_q_0
  have z_t := World.block_lt_of_cell? _ _ c_t_0
  have hB8 := below_two hB7 hs8
  clear hB7 hs8 hb8
  go_wp2_with fail
  have hR' := hR.below (hB8.alloc hB8.size (.cells #[.int .i64 bN, .int .i64 bD] 25))
  refine (HH.out _ hR').mono ?_
  rintro e w9 ⟨rfl, hb9⟩
  clear hR'
  have hs9 : Below w8.heap.size w8 w9 := Below.trans (by repeat (first | exact Below.refl _ _ | refine Below.alloc ?_ (by simp <;> omega) _)) (hb9.mono (by simp <;> omega))
  replace c_p_0 := cell_later hs9 c_p_0
  replace c_p_1 := cell_later hs9 c_p_1
  replace c_p_2 := cell_later hs9 c_p_2
  replace c_p_3 := cell_later hs9 c_p_3
  replace c_q_0 := cell_later hs9 c_q_0
  replace c_q_1 := cell_later hs9 c_q_1
  replace c_q_2 := cell_later hs9 c_q_2
  replace c_q_3 := cell_later hs9 c_q_3
  replace c_t_0 := cell_later hs9 c_t_0
  replace c_t_1 := cell_later hs9 c_t_1
  replace c_t_2 := cell_later hs9 c_t_2
  replace c_t_3 := cell_later hs9 c_t_3
  have c_c_0 : w9.cell? ⟨w8.heap.size, 0, none⟩ = some (.int .i64 bN) := (hb9.cell (by simp <;> omega)).trans (by go_simp)
  have c_c_1 : w9.cell? ⟨w8.heap.size, 1, none⟩ = some (.int .i64 bD) := (hb9.cell (by simp <;> omega)).trans (by go_simp)
  have z_c := World.block_lt_of_cell? _ _ c_c_0
  clear z_p
  have z_p := World.block_lt_of_cell? _ _ c_p_0
  clear z_q
  have z_q := World.block_lt_of_cell? _ _ c_q_0
  clear z_t
  have z_t := World.block_lt_of_cell? _ _ c_t_0
  have hB9 := below_two hB8 hs9
  clear hB8 hs9 hb9
  go_wp2_with fail
  have hs10 : Below w9.heap.size w9 (w9.alloc (.cells #[.int .i64 B, .int .i64 D, .int .i64 3, .int .i64 2] 23)) := by repeat (first | exact Below.refl _ _ | refine Below.alloc ?_ (by simp <;> omega) _)
  replace c_p_0 := cell_later hs10 c_p_0
  replace c_p_1 := cell_later hs10 c_p_1
  replace c_p_2 := cell_later hs10 c_p_2
  replace c_p_3 := cell_later hs10 c_p_3
  replace c_q_0 := cell_later hs10 c_q_0
  replace c_q_1 := cell_later hs10 c_q_1
  replace c_q_2 := cell_later hs10 c_q_2
  replace c_q_3 := cell_later hs10 c_q_3
  replace c_t_0 := cell_later hs10 c_t_0
  replace c_t_1 := cell_later hs10 c_t_1
  replace c_t_2 := cell_later hs10 c_t_2
  replace c_t_3 := cell_later hs10 c_t_3
  replace c_c_0 := cell_later hs10 c_c_0
  replace c_c_1 := cell_later hs10 c_c_1
  have c_h_0 : (w9.alloc (.cells #[.int .i64 B, .int .i64 D, .int .i64 3, .int .i64 2] 23)).cell? ⟨w9.heap.size, 0, none⟩ = some (.int .i64 B) := by go_simp
  have c_h_1 : (w9.alloc (.cells #[.int .i64 B, .int .i64 D, .int .i64 3, .int .i64 2] 23)).cell? ⟨w9.heap.size, 1, none⟩ = some (.int .i64 D) := by go_simp
  have c_h_2 : (w9.alloc (.cells #[.int .i64 B, .int .i64 D, .int .i64 3, .int .i64 2] 23)).cell? ⟨w9.heap.size, 2, none⟩ = some (.int .i64 3) := by go_simp
  have c_h_3 : (w9.alloc (.cells #[.int .i64 B, .int .i64 D, .int .i64 3, .int .i64 2] 23)).cell? ⟨w9.heap.size, 3, none⟩ = some (.int .i64 2) := by go_simp
  have hB10 := below_two hB9 hs10
  clear hB9 hs10
  have y10_c := z_c
  have y10_p := z_p
  have y10_q := z_q
  have y10_t := z_t
  generalize (w9.alloc (.cells #[.int .i64 B, .int .i64 D, .int .i64 3, .int .i64 2] 23)) = w10 at *
  clear z_c
  have z_c := World.block_lt_of_cell? _ _ c_c_0
  have z_h := World.block_lt_of_cell? _ _ c_h_0
  clear z_p
  have z_p := World.block_lt_of_cell? _ _ c_p_0
  clear z_q
  have z_q := World.block_lt_of_cell? _ _ c_q_0
  clear z_t
  have z_t := World.block_lt_of_cell? _ _ c_t_0
  have QB : Hid (∀ dd os, Below w.heap.size w (Go.Sort.grow (redrawn w10 dd) os)) := Lib.hid (fun dd os => below_two hB10 (below_regrown w10 dd os))
  have g_c_p_0 := fun dd os => cell_regrown c_p_0 dd os
  have g_c_p_1 := fun dd os => cell_regrown c_p_1 dd os
  have g_c_p_2 := fun dd os => cell_regrown c_p_2 dd os
  have g_c_p_3 := fun dd os => cell_regrown c_p_3 dd os
  have g_c_q_0 := fun dd os => cell_regrown c_q_0 dd os
  have g_c_q_1 := fun dd os => cell_regrown c_q_1 dd os
  have g_c_q_2 := fun dd os => cell_regrown c_q_2 dd os
  have g_c_q_3 := fun dd os => cell_regrown c_q_3 dd os
  have g_c_t_0 := fun dd os => cell_regrown c_t_0 dd os
  have g_c_t_1 := fun dd os => cell_regrown c_t_1 dd os
  have g_c_t_2 := fun dd os => cell_regrown c_t_2 dd os
  have g_c_t_3 := fun dd os => cell_regrown c_t_3 dd os
  have g_c_c_0 := fun dd os => cell_regrown c_c_0 dd os
  have g_c_c_1 := fun dd os => cell_regrown c_c_1 dd os
  have g_c_h_0 := fun dd os => cell_regrown c_h_0 dd os
  have g_c_h_1 := fun dd os => cell_regrown c_h_1 dd os
  have g_c_h_2 := fun dd os => cell_regrown c_h_2 dd os
  have g_c_h_3 := fun dd os => cell_regrown c_h_3 dd os
  refine wp_region_quiet_below (by kernel_rfl) (by kernel_rfl) ?_
  repeat (go_big_quiet_step (first | fail))
  refine wpQuiet_nil ?_
  intro _ hw'
  obtain ⟨⟨dq, osq⟩, hw''⟩ := hw'
  subst hw''
  replace c_p_0 := g_c_p_0 dq osq
  clear g_c_p_0
  replace c_p_1 := g_c_p_1 dq osq
  clear g_c_p_1
  replace c_p_2 := g_c_p_2 dq osq
  clear g_c_p_2
  replace c_p_3 := g_c_p_3 dq osq
  clear g_c_p_3
  replace c_q_0 := g_c_q_0 dq osq
  clear g_c_q_0
  replace c_q_1 := g_c_q_1 dq osq
  clear g_c_q_1
  replace c_q_2 := g_c_q_2 dq osq
  clear g_c_q_2
  replace c_q_3 := g_c_q_3 dq osq
  clear g_c_q_3
  replace c_t_0 := g_c_t_0 dq osq
  clear g_c_t_0
  replace c_t_1 := g_c_t_1 dq osq
  clear g_c_t_1
  replace c_t_2 := g_c_t_2 dq osq
  clear g_c_t_2
  replace c_t_3 := g_c_t_3 dq osq
  clear g_c_t_3
  replace c_c_0 := g_c_c_0 dq osq
  clear g_c_c_0
  replace c_c_1 := g_c_c_1 dq osq
  clear g_c_c_1
  replace c_h_0 := g_c_h_0 dq osq
  clear g_c_h_0
  replace c_h_1 := g_c_h_1 dq osq
  clear g_c_h_1
  replace c_h_2 := g_c_h_2 dq osq
  clear g_c_h_2
  replace c_h_3 := g_c_h_3 dq osq
  clear g_c_h_3
  have hB11 := QB.out dq osq
  clear QB hB10 z_c z_h z_p z_q z_t
  generalize Go.Sort.grow (redrawn w10 dq) osq = w11 at *
  have z_c := World.block_lt_of_cell? _ _ c_c_0
  have z_h := World.block_lt_of_cell? _ _ c_h_0
  have z_p := World.block_lt_of_cell? _ _ c_p_0
  have z_q := World.block_lt_of_cell? _ _ c_q_0
  have z_t := World.block_lt_of_cell? _ _ c_t_0
  go_wp2
  go_ret
  exact ⟨rfl, hB11⟩

set_option maxRecDepth 100000 in
set_option maxHeartbeats 4000000 in
theorem valueFinds_fp (b d n e l k : Int) (w : World) (hR : Vars w) (B D N E : Int) (HV : Hid (∀ w, Calls Tryz.prog 14 #[vl b d n e] w fun ed w' => ed = .returned (vl B D N E) ∧ Below w.heap.size w w')) (f0 f1 f2 f3 : Int) (HF : Hid (∀ w, Vars w → Calls Tryz.prog 27 #[rt l k] w fun ed w' => ed = .returned (.tuple #[vl f0 f1 f2 f3, .bool true]) ∧ Below w.heap.size w w')) (HL : Hid (∀ w, Vars w → Calls Tryz.prog 15 #[vl f0 f1 f2 f3] w fun ed w' => ed = .returned (rv l k 0) ∧ Below w.heap.size w w')) (HR : Hid (∀ w, Calls Tryz.prog 19 #[vl f0 f1 f2 f3] w fun ed w' => ed = .returned (.bool true) ∧ Below w.heap.size w w')) (aN aD bN bD : Int) (HA : Hid (∀ w, Vars w → Calls Tryz.prog 15 #[vl B D 0 0] w fun ed w' => ed = .returned (rv aN aD 0) ∧ Below w.heap.size w w')) (HG : Hid (∀ w, Vars w → Calls Tryz.prog 27 #[rt aN aD] w fun ed w' => ed = .returned (.tuple #[vl B D 0 0, .bool true]) ∧ Below w.heap.size w w')) (HB : Hid (∀ w, Vars w → Calls Tryz.prog 15 #[vl B D 3 2] w fun ed w' => ed = .returned (rv bN bD 0) ∧ Below w.heap.size w w')) (h0 h1 h3 : Int) (hne : eqV h0 h1 0 h3 B D 3 2 = false) (HH : Hid (∀ w, Vars w → Calls Tryz.prog 27 #[rt bN bD] w fun ed w' => ed = .returned (.tuple #[vl h0 h1 0 h3, .bool true]) ∧ Below w.heap.size w w')) (HK : Hid (∀ w, Vars w → Calls Tryz.prog 28 #[vl h0 h1 0 h3] w fun ed w' => ed = .returned (rt bN bD) ∧ Below w.heap.size w w')) :
    Calls Tryz.prog 6 #[vl b d n e, rt l k] w fun ed w' => ed = .returned (.bool true) ∧ Below w.heap.size w w' := by
  have hgR := guardR
  have hgV := guardV
  have heR := eql_rt
  have heV := eql_vl
  have hnR := neq_rt
  have hnV := neq_vl
  have hsR := eqR_self
  have hsV := eqV_self
  have hB0 : Below w.heap.size w w := Below.refl _ _
  go_enter Tryz.func6, Tryz.ntmps6
  go_wp2_with fail
  have hR' := hR.below ((hB0.alloc hB0.size (.cells #[.int .i64 b, .int .i64 d, .int .i64 n, .int .i64 e] 23)).alloc (hB0.alloc hB0.size (.cells #[.int .i64 b, .int .i64 d, .int .i64 n, .int .i64 e] 23)).size (.cells #[.int .i64 l, .int .i64 k] 25))
  refine (examples_any _ hR').mono ?_
  rintro e w1 ⟨rfl, hb1⟩
  clear hR'
  have hs1 : Below w.heap.size w w1 := Below.trans (by repeat (first | exact Below.refl _ _ | refine Below.alloc ?_ (by simp <;> omega) _)) (hb1.mono (by simp <;> omega))
  have c_v_0 : w1.cell? ⟨w.heap.size, 0, none⟩ = some (.int .i64 b) := (hb1.cell (by simp <;> omega)).trans (by go_simp)
  have c_v_1 : w1.cell? ⟨w.heap.size, 1, none⟩ = some (.int .i64 d) := (hb1.cell (by simp <;> omega)).trans (by go_simp)
  have c_v_2 : w1.cell? ⟨w.heap.size, 2, none⟩ = some (.int .i64 n) := (hb1.cell (by simp <;> omega)).trans (by go_simp)
  have c_v_3 : w1.cell? ⟨w.heap.size, 3, none⟩ = some (.int .i64 e) := (hb1.cell (by simp <;> omega)).trans (by go_simp)
  have c_l_0 : w1.cell? ⟨w.heap.size + 1, 0, none⟩ = some (.int .i64 l) := (hb1.cell (by simp <;> omega)).trans (by go_simp)
  have c_l_1 : w1.cell? ⟨w.heap.size + 1, 1, none⟩ = some (.int .i64 k) := (hb1.cell (by simp <;> omega)).trans (by go_simp)
  have z_l := World.block_lt_of_cell? _ _ c_l_0
  have z_v := World.block_lt_of_cell? _ _ c_v_0
  have hB1 := below_two hB0 hs1
  clear hB0 hs1 hb1
  go_wp2_with fail
  have hR' := hR.below hB1
  refine (HF.out _ hR').mono ?_
  rintro e w2 ⟨rfl, hb2⟩
  clear hR'
  have hs2 := hb2
  replace c_v_0 := cell_later hs2 c_v_0
  replace c_v_1 := cell_later hs2 c_v_1
  replace c_v_2 := cell_later hs2 c_v_2
  replace c_v_3 := cell_later hs2 c_v_3
  replace c_l_0 := cell_later hs2 c_l_0
  replace c_l_1 := cell_later hs2 c_l_1
  clear z_l
  have z_l := World.block_lt_of_cell? _ _ c_l_0
  clear z_v
  have z_v := World.block_lt_of_cell? _ _ c_v_0
  have hB2 := below_two hB1 hs2
  clear hB1 hs2
  go_wp2_with fail
  have hR' := hR.below (hB2.alloc hB2.size (.cells #[.int .i64 f0, .int .i64 f1, .int .i64 f2, .int .i64 f3] 23))
  refine (HL.out _ hR').mono ?_
  rintro e w3 ⟨rfl, hb3⟩
  clear hR'
  have hs3 : Below w2.heap.size w2 w3 := Below.trans (by repeat (first | exact Below.refl _ _ | refine Below.alloc ?_ (by simp <;> omega) _)) (hb3.mono (by simp <;> omega))
  replace c_v_0 := cell_later hs3 c_v_0
  replace c_v_1 := cell_later hs3 c_v_1
  replace c_v_2 := cell_later hs3 c_v_2
  replace c_v_3 := cell_later hs3 c_v_3
  replace c_l_0 := cell_later hs3 c_l_0
  replace c_l_1 := cell_later hs3 c_l_1
  have c_f_0 : w3.cell? ⟨w2.heap.size, 0, none⟩ = some (.int .i64 f0) := (hb3.cell (by simp <;> omega)).trans (by go_simp)
  have c_f_1 : w3.cell? ⟨w2.heap.size, 1, none⟩ = some (.int .i64 f1) := (hb3.cell (by simp <;> omega)).trans (by go_simp)
  have c_f_2 : w3.cell? ⟨w2.heap.size, 2, none⟩ = some (.int .i64 f2) := (hb3.cell (by simp <;> omega)).trans (by go_simp)
  have c_f_3 : w3.cell? ⟨w2.heap.size, 3, none⟩ = some (.int .i64 f3) := (hb3.cell (by simp <;> omega)).trans (by go_simp)
  have z_f := World.block_lt_of_cell? _ _ c_f_0
  clear z_l
  have z_l := World.block_lt_of_cell? _ _ c_l_0
  clear z_v
  have z_v := World.block_lt_of_cell? _ _ c_v_0
  have hB3 := below_two hB2 hs3
  clear hB2 hs3 hb3
  go_wp2_with fail
  have hR' := hR.below (hB3.alloc hB3.size (.cells #[.int .i64 l, .int .i64 k] 25))
  refine (HR.out _).mono ?_
  rintro e w4 ⟨rfl, hb4⟩
  clear hR'
  have hs4 : Below w3.heap.size w3 w4 := Below.trans (by repeat (first | exact Below.refl _ _ | refine Below.alloc ?_ (by simp <;> omega) _)) (hb4.mono (by simp <;> omega))
  clear c_l_0
  clear c_l_1
  clear c_f_0
  clear c_f_1
  clear c_f_2
  clear c_f_3
  replace c_v_0 := cell_later hs4 c_v_0
  replace c_v_1 := cell_later hs4 c_v_1
  replace c_v_2 := cell_later hs4 c_v_2
  replace c_v_3 := cell_later hs4 c_v_3
  clear z_v
  have z_v := World.block_lt_of_cell? _ _ c_v_0
  clear z_f
  clear z_l
  have hB4 := below_two hB3 hs4
  clear hB3 hs4 hb4
  go_wp2_with fail
  have hR' := hR.below hB4
  refine (HV.out _).mono ?_
  rintro e w5 ⟨rfl, hb5⟩
  clear hR'
  have hs5 := hb5
  clear c_v_0
  clear c_v_1
  clear c_v_2
  clear c_v_3
  clear z_v
  have hB5 := below_two hB4 hs5
  clear hB4 hs5
  go_wp2_with fail
  have hR' := hR.below ((hB5.alloc hB5.size (.cells #[.int .i64 B, .int .i64 D, .int .i64 N, .int .i64 E] 23)).alloc (hB5.alloc hB5.size (.cells #[.int .i64 B, .int .i64 D, .int .i64 N, .int .i64 E] 23)).size (.cells #[.int .i64 B, .int .i64 D, .int .i64 0, .int .i64 0] 23))
  refine (HA.out _ hR').mono ?_
  rintro e w6 ⟨rfl, hb6⟩
  clear hR'
  have hs6 : Below w5.heap.size w5 w6 := Below.trans (by repeat (first | exact Below.refl _ _ | refine Below.alloc ?_ (by simp <;> omega) _)) (hb6.mono (by simp <;> omega))
  have c_p_0 : w6.cell? ⟨w5.heap.size + 1, 0, none⟩ = some (.int .i64 B) := (hb6.cell (by simp <;> omega)).trans (by go_simp)
  have c_p_1 : w6.cell? ⟨w5.heap.size + 1, 1, none⟩ = some (.int .i64 D) := (hb6.cell (by simp <;> omega)).trans (by go_simp)
  have c_p_2 : w6.cell? ⟨w5.heap.size + 1, 2, none⟩ = some (.int .i64 0) := (hb6.cell (by simp <;> omega)).trans (by go_simp)
  have c_p_3 : w6.cell? ⟨w5.heap.size + 1, 3, none⟩ = some (.int .i64 0) := (hb6.cell (by simp <;> omega)).trans (by go_simp)
  have z_p := World.block_lt_of_cell? _ _ c_p_0
  have hB6 := below_two hB5 hs6
  clear hB5 hs6 hb6
  go_wp2_with fail
  have hR' := hR.below (hB6.alloc hB6.size (.cells #[.int .i64 aN, .int .i64 aD] 25))
  refine (HG.out _ hR').mono ?_
  rintro e w7 ⟨rfl, hb7⟩
  clear hR'
  have hs7 : Below w6.heap.size w6 w7 := Below.trans (by repeat (first | exact Below.refl _ _ | refine Below.alloc ?_ (by simp <;> omega) _)) (hb7.mono (by simp <;> omega))
  replace c_p_0 := cell_later hs7 c_p_0
  replace c_p_1 := cell_later hs7 c_p_1
  replace c_p_2 := cell_later hs7 c_p_2
  replace c_p_3 := cell_later hs7 c_p_3
  clear z_p
  have z_p := World.block_lt_of_cell? _ _ c_p_0
  have hB7 := below_two hB6 hs7
  clear hB6 hs7 hb7
  go_wp2_with fail
  have hR' := hR.below ((hB7.alloc hB7.size (.cells #[.int .i64 B, .int .i64 D, .int .i64 0, .int .i64 0] 23)).alloc (hB7.alloc hB7.size (.cells #[.int .i64 B, .int .i64 D, .int .i64 0, .int .i64 0] 23)).size (.cells #[.int .i64 B, .int .i64 D, .int .i64 3, .int .i64 2] 23))
  refine (HB.out _ hR').mono ?_
  rintro e w8 ⟨rfl, hb8⟩
  clear hR'
  have hs8 : Below w7.heap.size w7 w8 := Below.trans (by repeat (first | exact Below.refl _ _ | refine Below.alloc ?_ (by simp <;> omega) _)) (hb8.mono (by simp <;> omega))
  replace c_p_0 := cell_later hs8 c_p_0
  replace c_p_1 := cell_later hs8 c_p_1
  replace c_p_2 := cell_later hs8 c_p_2
  replace c_p_3 := cell_later hs8 c_p_3
  have c_q_0 : w8.cell? ⟨w7.heap.size, 0, none⟩ = some (.int .i64 B) := (hb8.cell (by simp <;> omega)).trans (by go_simp)
  have c_q_1 : w8.cell? ⟨w7.heap.size, 1, none⟩ = some (.int .i64 D) := (hb8.cell (by simp <;> omega)).trans (by go_simp)
  have c_q_2 : w8.cell? ⟨w7.heap.size, 2, none⟩ = some (.int .i64 0) := (hb8.cell (by simp <;> omega)).trans (by go_simp)
  have c_q_3 : w8.cell? ⟨w7.heap.size, 3, none⟩ = some (.int .i64 0) := (hb8.cell (by simp <;> omega)).trans (by go_simp)
  have c_t_0 : w8.cell? ⟨w7.heap.size + 1, 0, none⟩ = some (.int .i64 B) := (hb8.cell (by simp <;> omega)).trans (by go_simp)
  have c_t_1 : w8.cell? ⟨w7.heap.size + 1, 1, none⟩ = some (.int .i64 D) := (hb8.cell (by simp <;> omega)).trans (by go_simp)
  have c_t_2 : w8.cell? ⟨w7.heap.size + 1, 2, none⟩ = some (.int .i64 3) := (hb8.cell (by simp <;> omega)).trans (by go_simp)
  have c_t_3 : w8.cell? ⟨w7.heap.size + 1, 3, none⟩ = some (.int .i64 2) := (hb8.cell (by simp <;> omega)).trans (by go_simp)
  clear z_p
  have z_p := World.block_lt_of_cell? _ _ c_p_0
  have z_q := World.block_lt_of_cell? _ _ c_q_0
  have z_t := World.block_lt_of_cell? _ _ c_t_0
  have hB8 := below_two hB7 hs8
  clear hB7 hs8 hb8
  go_wp2_with fail
  have hR' := hR.below (hB8.alloc hB8.size (.cells #[.int .i64 bN, .int .i64 bD] 25))
  refine (HH.out _ hR').mono ?_
  rintro e w9 ⟨rfl, hb9⟩
  clear hR'
  have hs9 : Below w8.heap.size w8 w9 := Below.trans (by repeat (first | exact Below.refl _ _ | refine Below.alloc ?_ (by simp <;> omega) _)) (hb9.mono (by simp <;> omega))
  replace c_p_0 := cell_later hs9 c_p_0
  replace c_p_1 := cell_later hs9 c_p_1
  replace c_p_2 := cell_later hs9 c_p_2
  replace c_p_3 := cell_later hs9 c_p_3
  replace c_q_0 := cell_later hs9 c_q_0
  replace c_q_1 := cell_later hs9 c_q_1
  replace c_q_2 := cell_later hs9 c_q_2
  replace c_q_3 := cell_later hs9 c_q_3
  replace c_t_0 := cell_later hs9 c_t_0
  replace c_t_1 := cell_later hs9 c_t_1
  replace c_t_2 := cell_later hs9 c_t_2
  replace c_t_3 := cell_later hs9 c_t_3
  have c_c_0 : w9.cell? ⟨w8.heap.size, 0, none⟩ = some (.int .i64 bN) := (hb9.cell (by simp <;> omega)).trans (by go_simp)
  have c_c_1 : w9.cell? ⟨w8.heap.size, 1, none⟩ = some (.int .i64 bD) := (hb9.cell (by simp <;> omega)).trans (by go_simp)
  have z_c := World.block_lt_of_cell? _ _ c_c_0
  clear z_p
  have z_p := World.block_lt_of_cell? _ _ c_p_0
  clear z_q
  have z_q := World.block_lt_of_cell? _ _ c_q_0
  clear z_t
  have z_t := World.block_lt_of_cell? _ _ c_t_0
  have hB9 := below_two hB8 hs9
  clear hB8 hs9 hb9
  go_wp2_with fail
  have hs10 : Below w9.heap.size w9 (w9.alloc (.cells #[.int .i64 h0, .int .i64 h1, .int .i64 0, .int .i64 h3] 23)) := by repeat (first | exact Below.refl _ _ | refine Below.alloc ?_ (by simp <;> omega) _)
  replace c_p_0 := cell_later hs10 c_p_0
  replace c_p_1 := cell_later hs10 c_p_1
  replace c_p_2 := cell_later hs10 c_p_2
  replace c_p_3 := cell_later hs10 c_p_3
  replace c_q_0 := cell_later hs10 c_q_0
  replace c_q_1 := cell_later hs10 c_q_1
  replace c_q_2 := cell_later hs10 c_q_2
  replace c_q_3 := cell_later hs10 c_q_3
  replace c_t_0 := cell_later hs10 c_t_0
  replace c_t_1 := cell_later hs10 c_t_1
  replace c_t_2 := cell_later hs10 c_t_2
  replace c_t_3 := cell_later hs10 c_t_3
  replace c_c_0 := cell_later hs10 c_c_0
  replace c_c_1 := cell_later hs10 c_c_1
  have c_h_0 : (w9.alloc (.cells #[.int .i64 h0, .int .i64 h1, .int .i64 0, .int .i64 h3] 23)).cell? ⟨w9.heap.size, 0, none⟩ = some (.int .i64 h0) := by go_simp
  have c_h_1 : (w9.alloc (.cells #[.int .i64 h0, .int .i64 h1, .int .i64 0, .int .i64 h3] 23)).cell? ⟨w9.heap.size, 1, none⟩ = some (.int .i64 h1) := by go_simp
  have c_h_2 : (w9.alloc (.cells #[.int .i64 h0, .int .i64 h1, .int .i64 0, .int .i64 h3] 23)).cell? ⟨w9.heap.size, 2, none⟩ = some (.int .i64 0) := by go_simp
  have c_h_3 : (w9.alloc (.cells #[.int .i64 h0, .int .i64 h1, .int .i64 0, .int .i64 h3] 23)).cell? ⟨w9.heap.size, 3, none⟩ = some (.int .i64 h3) := by go_simp
  have hB10 := below_two hB9 hs10
  clear hB9 hs10
  have y10_c := z_c
  have y10_p := z_p
  have y10_q := z_q
  have y10_t := z_t
  generalize (w9.alloc (.cells #[.int .i64 h0, .int .i64 h1, .int .i64 0, .int .i64 h3] 23)) = w10 at *
  clear z_c
  have z_c := World.block_lt_of_cell? _ _ c_c_0
  have z_h := World.block_lt_of_cell? _ _ c_h_0
  clear z_p
  have z_p := World.block_lt_of_cell? _ _ c_p_0
  clear z_q
  have z_q := World.block_lt_of_cell? _ _ c_q_0
  clear z_t
  have z_t := World.block_lt_of_cell? _ _ c_t_0
  have QB : Hid (∀ dd os, Below w.heap.size w (Go.Sort.grow (redrawn w10 dd) os)) := Lib.hid (fun dd os => below_two hB10 (below_regrown w10 dd os))
  have g_c_p_0 := fun dd os => cell_regrown c_p_0 dd os
  have g_c_p_1 := fun dd os => cell_regrown c_p_1 dd os
  have g_c_p_2 := fun dd os => cell_regrown c_p_2 dd os
  have g_c_p_3 := fun dd os => cell_regrown c_p_3 dd os
  have g_c_q_0 := fun dd os => cell_regrown c_q_0 dd os
  have g_c_q_1 := fun dd os => cell_regrown c_q_1 dd os
  have g_c_q_2 := fun dd os => cell_regrown c_q_2 dd os
  have g_c_q_3 := fun dd os => cell_regrown c_q_3 dd os
  have g_c_t_0 := fun dd os => cell_regrown c_t_0 dd os
  have g_c_t_1 := fun dd os => cell_regrown c_t_1 dd os
  have g_c_t_2 := fun dd os => cell_regrown c_t_2 dd os
  have g_c_t_3 := fun dd os => cell_regrown c_t_3 dd os
  have g_c_c_0 := fun dd os => cell_regrown c_c_0 dd os
  have g_c_c_1 := fun dd os => cell_regrown c_c_1 dd os
  have g_c_h_0 := fun dd os => cell_regrown c_h_0 dd os
  have g_c_h_1 := fun dd os => cell_regrown c_h_1 dd os
  have g_c_h_2 := fun dd os => cell_regrown c_h_2 dd os
  have g_c_h_3 := fun dd os => cell_regrown c_h_3 dd os
  have q0 : Hid (∀ dd os, Calls Tryz.prog 28 #[vl h0 h1 0 h3] (Go.Sort.grow (redrawn w10 dd) os) fun e w'' => e = .returned (rt bN bD) ∧ ∃ p : Regrown, w'' = Go.Sort.grow (redrawn w10 p.d) p.os) := Lib.hid (fun dd os => Calls.regrown_of (HK.out (Go.Sort.grow (redrawn w10 dd) os) (hR.below (QB.out dd os))))
  refine wp_region_quiet_below (by kernel_rfl) (by kernel_rfl) ?_
  repeat (go_big_quiet_step (first | (go_at_call 28; exact q0.out _ _)))
  refine wpQuiet_nil ?_
  intro _ hw'
  obtain ⟨⟨dq, osq⟩, hw''⟩ := hw'
  subst hw''
  replace c_p_0 := g_c_p_0 dq osq
  clear g_c_p_0
  replace c_p_1 := g_c_p_1 dq osq
  clear g_c_p_1
  replace c_p_2 := g_c_p_2 dq osq
  clear g_c_p_2
  replace c_p_3 := g_c_p_3 dq osq
  clear g_c_p_3
  replace c_q_0 := g_c_q_0 dq osq
  clear g_c_q_0
  replace c_q_1 := g_c_q_1 dq osq
  clear g_c_q_1
  replace c_q_2 := g_c_q_2 dq osq
  clear g_c_q_2
  replace c_q_3 := g_c_q_3 dq osq
  clear g_c_q_3
  replace c_t_0 := g_c_t_0 dq osq
  clear g_c_t_0
  replace c_t_1 := g_c_t_1 dq osq
  clear g_c_t_1
  replace c_t_2 := g_c_t_2 dq osq
  clear g_c_t_2
  replace c_t_3 := g_c_t_3 dq osq
  clear g_c_t_3
  replace c_c_0 := g_c_c_0 dq osq
  clear g_c_c_0
  replace c_c_1 := g_c_c_1 dq osq
  clear g_c_c_1
  replace c_h_0 := g_c_h_0 dq osq
  clear g_c_h_0
  replace c_h_1 := g_c_h_1 dq osq
  clear g_c_h_1
  replace c_h_2 := g_c_h_2 dq osq
  clear g_c_h_2
  replace c_h_3 := g_c_h_3 dq osq
  clear g_c_h_3
  clear q0
  have hB11 := QB.out dq osq
  clear QB hB10 z_c z_h z_p z_q z_t
  generalize Go.Sort.grow (redrawn w10 dq) osq = w11 at *
  have z_c := World.block_lt_of_cell? _ _ c_c_0
  have z_h := World.block_lt_of_cell? _ _ c_h_0
  have z_p := World.block_lt_of_cell? _ _ c_p_0
  have z_q := World.block_lt_of_cell? _ _ c_q_0
  have z_t := World.block_lt_of_cell? _ _ c_t_0
  go_wp2
  go_ret
  exact ⟨rfl, hB11⟩

set_option maxRecDepth 100000 in
set_option maxHeartbeats 4000000 in
theorem valueFinds_ns (b d n e l k : Int) (w : World) (hR : Vars w) (B D N E : Int) (HV : Hid (∀ w, Calls Tryz.prog 14 #[vl b d n e] w fun ed w' => ed = .returned (vl B D N E) ∧ Below w.heap.size w w')) (X Y : Int) (HF : Hid (∀ w, Vars w → Calls Tryz.prog 27 #[rt l k] w fun ed w' => ed = .returned (.tuple #[vl 0 0 0 0, .bool false]) ∧ Below w.heap.size w w')) (HL : Hid (∀ w, Vars w → Calls Tryz.prog 15 #[vl 0 0 0 0] w fun ed w' => ed = .returned (rv X Y 0) ∧ Below w.heap.size w w')) (aN aD bN bD : Int) (HA : Hid (∀ w, Vars w → Calls Tryz.prog 15 #[vl B D 0 0] w fun ed w' => ed = .returned (rv aN aD 0) ∧ Below w.heap.size w w')) (HG : Hid (∀ w, Vars w → Calls Tryz.prog 27 #[rt aN aD] w fun ed w' => ed = .returned (.tuple #[vl B D 0 0, .bool true]) ∧ Below w.heap.size w w')) (HB : Hid (∀ w, Vars w → Calls Tryz.prog 15 #[vl B D 3 2] w fun ed w' => ed = .returned (rv bN bD 0) ∧ Below w.heap.size w w')) (HH : Hid (∀ w, Vars w → Calls Tryz.prog 27 #[rt bN bD] w fun ed w' => ed = .returned (.tuple #[vl B D 3 2, .bool true]) ∧ Below w.heap.size w w')) :
    Calls Tryz.prog 6 #[vl b d n e, rt l k] w fun ed w' => ed = .returned (.bool true) ∧ Below w.heap.size w w' := by
  have hgR := guardR
  have hgV := guardV
  have heR := eql_rt
  have heV := eql_vl
  have hnR := neq_rt
  have hnV := neq_vl
  have hsR := eqR_self
  have hsV := eqV_self
  have hB0 : Below w.heap.size w w := Below.refl _ _
  go_enter Tryz.func6, Tryz.ntmps6
  go_wp2_with fail
  have hR' := hR.below ((hB0.alloc hB0.size (.cells #[.int .i64 b, .int .i64 d, .int .i64 n, .int .i64 e] 23)).alloc (hB0.alloc hB0.size (.cells #[.int .i64 b, .int .i64 d, .int .i64 n, .int .i64 e] 23)).size (.cells #[.int .i64 l, .int .i64 k] 25))
  refine (examples_any _ hR').mono ?_
  rintro e w1 ⟨rfl, hb1⟩
  clear hR'
  have hs1 : Below w.heap.size w w1 := Below.trans (by repeat (first | exact Below.refl _ _ | refine Below.alloc ?_ (by simp <;> omega) _)) (hb1.mono (by simp <;> omega))
  have c_v_0 : w1.cell? ⟨w.heap.size, 0, none⟩ = some (.int .i64 b) := (hb1.cell (by simp <;> omega)).trans (by go_simp)
  have c_v_1 : w1.cell? ⟨w.heap.size, 1, none⟩ = some (.int .i64 d) := (hb1.cell (by simp <;> omega)).trans (by go_simp)
  have c_v_2 : w1.cell? ⟨w.heap.size, 2, none⟩ = some (.int .i64 n) := (hb1.cell (by simp <;> omega)).trans (by go_simp)
  have c_v_3 : w1.cell? ⟨w.heap.size, 3, none⟩ = some (.int .i64 e) := (hb1.cell (by simp <;> omega)).trans (by go_simp)
  have c_l_0 : w1.cell? ⟨w.heap.size + 1, 0, none⟩ = some (.int .i64 l) := (hb1.cell (by simp <;> omega)).trans (by go_simp)
  have c_l_1 : w1.cell? ⟨w.heap.size + 1, 1, none⟩ = some (.int .i64 k) := (hb1.cell (by simp <;> omega)).trans (by go_simp)
  have z_l := World.block_lt_of_cell? _ _ c_l_0
  have z_v := World.block_lt_of_cell? _ _ c_v_0
  have hB1 := below_two hB0 hs1
  clear hB0 hs1 hb1
  go_wp2_with fail
  have hR' := hR.below hB1
  refine (HF.out _ hR').mono ?_
  rintro e w2 ⟨rfl, hb2⟩
  clear hR'
  have hs2 := hb2
  replace c_v_0 := cell_later hs2 c_v_0
  replace c_v_1 := cell_later hs2 c_v_1
  replace c_v_2 := cell_later hs2 c_v_2
  replace c_v_3 := cell_later hs2 c_v_3
  replace c_l_0 := cell_later hs2 c_l_0
  replace c_l_1 := cell_later hs2 c_l_1
  clear z_l
  have z_l := World.block_lt_of_cell? _ _ c_l_0
  clear z_v
  have z_v := World.block_lt_of_cell? _ _ c_v_0
  have hB2 := below_two hB1 hs2
  clear hB1 hs2
  go_wp2_with fail
  have hR' := hR.below (hB2.alloc hB2.size (.cells #[.int .i64 0, .int .i64 0, .int .i64 0, .int .i64 0] 23))
  refine (HL.out _ hR').mono ?_
  rintro e w3 ⟨rfl, hb3⟩
  clear hR'
  have hs3 : Below w2.heap.size w2 w3 := Below.trans (by repeat (first | exact Below.refl _ _ | refine Below.alloc ?_ (by simp <;> omega) _)) (hb3.mono (by simp <;> omega))
  replace c_v_0 := cell_later hs3 c_v_0
  replace c_v_1 := cell_later hs3 c_v_1
  replace c_v_2 := cell_later hs3 c_v_2
  replace c_v_3 := cell_later hs3 c_v_3
  replace c_l_0 := cell_later hs3 c_l_0
  replace c_l_1 := cell_later hs3 c_l_1
  have c_f_0 : w3.cell? ⟨w2.heap.size, 0, none⟩ = some (.int .i64 0) := (hb3.cell (by simp <;> omega)).trans (by go_simp)
  have c_f_1 : w3.cell? ⟨w2.heap.size, 1, none⟩ = some (.int .i64 0) := (hb3.cell (by simp <;> omega)).trans (by go_simp)
  have c_f_2 : w3.cell? ⟨w2.heap.size, 2, none⟩ = some (.int .i64 0) := (hb3.cell (by simp <;> omega)).trans (by go_simp)
  have c_f_3 : w3.cell? ⟨w2.heap.size, 3, none⟩ = some (.int .i64 0) := (hb3.cell (by simp <;> omega)).trans (by go_simp)
  have z_f := World.block_lt_of_cell? _ _ c_f_0
  clear z_l
  have z_l := World.block_lt_of_cell? _ _ c_l_0
  clear z_v
  have z_v := World.block_lt_of_cell? _ _ c_v_0
  have hB3 := below_two hB2 hs3
  clear hB2 hs3 hb3
  go_wp2_with fail
  have hR' := hR.below (hB3.alloc hB3.size (.cells #[.int .i64 X, .int .i64 Y] 25))
  refine (HV.out _).mono ?_
  rintro e w4 ⟨rfl, hb4⟩
  clear hR'
  have hs4 : Below w3.heap.size w3 w4 := Below.trans (by repeat (first | exact Below.refl _ _ | refine Below.alloc ?_ (by simp <;> omega) _)) (hb4.mono (by simp <;> omega))
  clear c_v_0
  clear c_v_1
  clear c_v_2
  clear c_v_3
  clear c_l_0
  clear c_l_1
  clear c_f_0
  clear c_f_1
  clear c_f_2
  clear c_f_3
  clear z_f
  clear z_l
  clear z_v
  have hB4 := below_two hB3 hs4
  clear hB3 hs4 hb4
  go_wp2_with fail
  have hR' := hR.below ((hB4.alloc hB4.size (.cells #[.int .i64 B, .int .i64 D, .int .i64 N, .int .i64 E] 23)).alloc (hB4.alloc hB4.size (.cells #[.int .i64 B, .int .i64 D, .int .i64 N, .int .i64 E] 23)).size (.cells #[.int .i64 B, .int .i64 D, .int .i64 0, .int .i64 0] 23))
  refine (HA.out _ hR').mono ?_
  rintro e w5 ⟨rfl, hb5⟩
  clear hR'
  have hs5 : Below w4.heap.size w4 w5 := Below.trans (by repeat (first | exact Below.refl _ _ | refine Below.alloc ?_ (by simp <;> omega) _)) (hb5.mono (by simp <;> omega))
  have c_p_0 : w5.cell? ⟨w4.heap.size + 1, 0, none⟩ = some (.int .i64 B) := (hb5.cell (by simp <;> omega)).trans (by go_simp)
  have c_p_1 : w5.cell? ⟨w4.heap.size + 1, 1, none⟩ = some (.int .i64 D) := (hb5.cell (by simp <;> omega)).trans (by go_simp)
  have c_p_2 : w5.cell? ⟨w4.heap.size + 1, 2, none⟩ = some (.int .i64 0) := (hb5.cell (by simp <;> omega)).trans (by go_simp)
  have c_p_3 : w5.cell? ⟨w4.heap.size + 1, 3, none⟩ = some (.int .i64 0) := (hb5.cell (by simp <;> omega)).trans (by go_simp)
  have z_p := World.block_lt_of_cell? _ _ c_p_0
  have hB5 := below_two hB4 hs5
  clear hB4 hs5 hb5
  go_wp2_with fail
  have hR' := hR.below (hB5.alloc hB5.size (.cells #[.int .i64 aN, .int .i64 aD] 25))
  refine (HG.out _ hR').mono ?_
  rintro e w6 ⟨rfl, hb6⟩
  clear hR'
  have hs6 : Below w5.heap.size w5 w6 := Below.trans (by repeat (first | exact Below.refl _ _ | refine Below.alloc ?_ (by simp <;> omega) _)) (hb6.mono (by simp <;> omega))
  replace c_p_0 := cell_later hs6 c_p_0
  replace c_p_1 := cell_later hs6 c_p_1
  replace c_p_2 := cell_later hs6 c_p_2
  replace c_p_3 := cell_later hs6 c_p_3
  clear z_p
  have z_p := World.block_lt_of_cell? _ _ c_p_0
  have hB6 := below_two hB5 hs6
  clear hB5 hs6 hb6
  go_wp2_with fail
  have hR' := hR.below ((hB6.alloc hB6.size (.cells #[.int .i64 B, .int .i64 D, .int .i64 0, .int .i64 0] 23)).alloc (hB6.alloc hB6.size (.cells #[.int .i64 B, .int .i64 D, .int .i64 0, .int .i64 0] 23)).size (.cells #[.int .i64 B, .int .i64 D, .int .i64 3, .int .i64 2] 23))
  refine (HB.out _ hR').mono ?_
  rintro e w7 ⟨rfl, hb7⟩
  clear hR'
  have hs7 : Below w6.heap.size w6 w7 := Below.trans (by repeat (first | exact Below.refl _ _ | refine Below.alloc ?_ (by simp <;> omega) _)) (hb7.mono (by simp <;> omega))
  replace c_p_0 := cell_later hs7 c_p_0
  replace c_p_1 := cell_later hs7 c_p_1
  replace c_p_2 := cell_later hs7 c_p_2
  replace c_p_3 := cell_later hs7 c_p_3
  have c_q_0 : w7.cell? ⟨w6.heap.size, 0, none⟩ = some (.int .i64 B) := (hb7.cell (by simp <;> omega)).trans (by go_simp)
  have c_q_1 : w7.cell? ⟨w6.heap.size, 1, none⟩ = some (.int .i64 D) := (hb7.cell (by simp <;> omega)).trans (by go_simp)
  have c_q_2 : w7.cell? ⟨w6.heap.size, 2, none⟩ = some (.int .i64 0) := (hb7.cell (by simp <;> omega)).trans (by go_simp)
  have c_q_3 : w7.cell? ⟨w6.heap.size, 3, none⟩ = some (.int .i64 0) := (hb7.cell (by simp <;> omega)).trans (by go_simp)
  have c_t_0 : w7.cell? ⟨w6.heap.size + 1, 0, none⟩ = some (.int .i64 B) := (hb7.cell (by simp <;> omega)).trans (by go_simp)
  have c_t_1 : w7.cell? ⟨w6.heap.size + 1, 1, none⟩ = some (.int .i64 D) := (hb7.cell (by simp <;> omega)).trans (by go_simp)
  have c_t_2 : w7.cell? ⟨w6.heap.size + 1, 2, none⟩ = some (.int .i64 3) := (hb7.cell (by simp <;> omega)).trans (by go_simp)
  have c_t_3 : w7.cell? ⟨w6.heap.size + 1, 3, none⟩ = some (.int .i64 2) := (hb7.cell (by simp <;> omega)).trans (by go_simp)
  clear z_p
  have z_p := World.block_lt_of_cell? _ _ c_p_0
  have z_q := World.block_lt_of_cell? _ _ c_q_0
  have z_t := World.block_lt_of_cell? _ _ c_t_0
  have hB7 := below_two hB6 hs7
  clear hB6 hs7 hb7
  go_wp2_with fail
  have hR' := hR.below (hB7.alloc hB7.size (.cells #[.int .i64 bN, .int .i64 bD] 25))
  refine (HH.out _ hR').mono ?_
  rintro e w8 ⟨rfl, hb8⟩
  clear hR'
  have hs8 : Below w7.heap.size w7 w8 := Below.trans (by repeat (first | exact Below.refl _ _ | refine Below.alloc ?_ (by simp <;> omega) _)) (hb8.mono (by simp <;> omega))
  replace c_p_0 := cell_later hs8 c_p_0
  replace c_p_1 := cell_later hs8 c_p_1
  replace c_p_2 := cell_later hs8 c_p_2
  replace c_p_3 := cell_later hs8 c_p_3
  replace c_q_0 := cell_later hs8 c_q_0
  replace c_q_1 := cell_later hs8 c_q_1
  replace c_q_2 := cell_later hs8 c_q_2
  replace c_q_3 := cell_later hs8 c_q_3
  replace c_t_0 := cell_later hs8 c_t_0
  replace c_t_1 := cell_later hs8 c_t_1
  replace c_t_2 := cell_later hs8 c_t_2
  replace c_t_3 := cell_later hs8 c_t_3
  have c_c_0 : w8.cell? ⟨w7.heap.size, 0, none⟩ = some (.int .i64 bN) := (hb8.cell (by simp <;> omega)).trans (by go_simp)
  have c_c_1 : w8.cell? ⟨w7.heap.size, 1, none⟩ = some (.int .i64 bD) := (hb8.cell (by simp <;> omega)).trans (by go_simp)
  have z_c := World.block_lt_of_cell? _ _ c_c_0
  clear z_p
  have z_p := World.block_lt_of_cell? _ _ c_p_0
  clear z_q
  have z_q := World.block_lt_of_cell? _ _ c_q_0
  clear z_t
  have z_t := World.block_lt_of_cell? _ _ c_t_0
  have hB8 := below_two hB7 hs8
  clear hB7 hs8 hb8
  go_wp2_with fail
  have hs9 : Below w8.heap.size w8 (w8.alloc (.cells #[.int .i64 B, .int .i64 D, .int .i64 3, .int .i64 2] 23)) := by repeat (first | exact Below.refl _ _ | refine Below.alloc ?_ (by simp <;> omega) _)
  replace c_p_0 := cell_later hs9 c_p_0
  replace c_p_1 := cell_later hs9 c_p_1
  replace c_p_2 := cell_later hs9 c_p_2
  replace c_p_3 := cell_later hs9 c_p_3
  replace c_q_0 := cell_later hs9 c_q_0
  replace c_q_1 := cell_later hs9 c_q_1
  replace c_q_2 := cell_later hs9 c_q_2
  replace c_q_3 := cell_later hs9 c_q_3
  replace c_t_0 := cell_later hs9 c_t_0
  replace c_t_1 := cell_later hs9 c_t_1
  replace c_t_2 := cell_later hs9 c_t_2
  replace c_t_3 := cell_later hs9 c_t_3
  replace c_c_0 := cell_later hs9 c_c_0
  replace c_c_1 := cell_later hs9 c_c_1
  have c_h_0 : (w8.alloc (.cells #[.int .i64 B, .int .i64 D, .int .i64 3, .int .i64 2] 23)).cell? ⟨w8.heap.size, 0, none⟩ = some (.int .i64 B) := by go_simp
  have c_h_1 : (w8.alloc (.cells #[.int .i64 B, .int .i64 D, .int .i64 3, .int .i64 2] 23)).cell? ⟨w8.heap.size, 1, none⟩ = some (.int .i64 D) := by go_simp
  have c_h_2 : (w8.alloc (.cells #[.int .i64 B, .int .i64 D, .int .i64 3, .int .i64 2] 23)).cell? ⟨w8.heap.size, 2, none⟩ = some (.int .i64 3) := by go_simp
  have c_h_3 : (w8.alloc (.cells #[.int .i64 B, .int .i64 D, .int .i64 3, .int .i64 2] 23)).cell? ⟨w8.heap.size, 3, none⟩ = some (.int .i64 2) := by go_simp
  have hB9 := below_two hB8 hs9
  clear hB8 hs9
  have y9_c := z_c
  have y9_p := z_p
  have y9_q := z_q
  have y9_t := z_t
  generalize (w8.alloc (.cells #[.int .i64 B, .int .i64 D, .int .i64 3, .int .i64 2] 23)) = w9 at *
  clear z_c
  have z_c := World.block_lt_of_cell? _ _ c_c_0
  have z_h := World.block_lt_of_cell? _ _ c_h_0
  clear z_p
  have z_p := World.block_lt_of_cell? _ _ c_p_0
  clear z_q
  have z_q := World.block_lt_of_cell? _ _ c_q_0
  clear z_t
  have z_t := World.block_lt_of_cell? _ _ c_t_0
  have QB : Hid (∀ dd os, Below w.heap.size w (Go.Sort.grow (redrawn w9 dd) os)) := Lib.hid (fun dd os => below_two hB9 (below_regrown w9 dd os))
  have g_c_p_0 := fun dd os => cell_regrown c_p_0 dd os
  have g_c_p_1 := fun dd os => cell_regrown c_p_1 dd os
  have g_c_p_2 := fun dd os => cell_regrown c_p_2 dd os
  have g_c_p_3 := fun dd os => cell_regrown c_p_3 dd os
  have g_c_q_0 := fun dd os => cell_regrown c_q_0 dd os
  have g_c_q_1 := fun dd os => cell_regrown c_q_1 dd os
  have g_c_q_2 := fun dd os => cell_regrown c_q_2 dd os
  have g_c_q_3 := fun dd os => cell_regrown c_q_3 dd os
  have g_c_t_0 := fun dd os => cell_regrown c_t_0 dd os
  have g_c_t_1 := fun dd os => cell_regrown c_t_1 dd os
  have g_c_t_2 := fun dd os => cell_regrown c_t_2 dd os
  have g_c_t_3 := fun dd os => cell_regrown c_t_3 dd os
  have g_c_c_0 := fun dd os => cell_regrown c_c_0 dd os
  have g_c_c_1 := fun dd os => cell_regrown c_c_1 dd os
  have g_c_h_0 := fun dd os => cell_regrown c_h_0 dd os
  have g_c_h_1 := fun dd os => cell_regrown c_h_1 dd os
  have g_c_h_2 := fun dd os => cell_regrown c_h_2 dd os
  have g_c_h_3 := fun dd os => cell_regrown c_h_3 dd os
  refine wp_region_quiet_below (by kernel_rfl) (by kernel_rfl) ?_
  repeat (go_big_quiet_step (first | fail))
  refine wpQuiet_nil ?_
  intro _ hw'
  obtain ⟨⟨dq, osq⟩, hw''⟩ := hw'
  subst hw''
  replace c_p_0 := g_c_p_0 dq osq
  clear g_c_p_0
  replace c_p_1 := g_c_p_1 dq osq
  clear g_c_p_1
  replace c_p_2 := g_c_p_2 dq osq
  clear g_c_p_2
  replace c_p_3 := g_c_p_3 dq osq
  clear g_c_p_3
  replace c_q_0 := g_c_q_0 dq osq
  clear g_c_q_0
  replace c_q_1 := g_c_q_1 dq osq
  clear g_c_q_1
  replace c_q_2 := g_c_q_2 dq osq
  clear g_c_q_2
  replace c_q_3 := g_c_q_3 dq osq
  clear g_c_q_3
  replace c_t_0 := g_c_t_0 dq osq
  clear g_c_t_0
  replace c_t_1 := g_c_t_1 dq osq
  clear g_c_t_1
  replace c_t_2 := g_c_t_2 dq osq
  clear g_c_t_2
  replace c_t_3 := g_c_t_3 dq osq
  clear g_c_t_3
  replace c_c_0 := g_c_c_0 dq osq
  clear g_c_c_0
  replace c_c_1 := g_c_c_1 dq osq
  clear g_c_c_1
  replace c_h_0 := g_c_h_0 dq osq
  clear g_c_h_0
  replace c_h_1 := g_c_h_1 dq osq
  clear g_c_h_1
  replace c_h_2 := g_c_h_2 dq osq
  clear g_c_h_2
  replace c_h_3 := g_c_h_3 dq osq
  clear g_c_h_3
  have hB10 := QB.out dq osq
  clear QB hB9 z_c z_h z_p z_q z_t
  generalize Go.Sort.grow (redrawn w9 dq) osq = w10 at *
  have z_c := World.block_lt_of_cell? _ _ c_c_0
  have z_h := World.block_lt_of_cell? _ _ c_h_0
  have z_p := World.block_lt_of_cell? _ _ c_p_0
  have z_q := World.block_lt_of_cell? _ _ c_q_0
  have z_t := World.block_lt_of_cell? _ _ c_t_0
  go_wp2
  go_ret
  exact ⟨rfl, hB10⟩

set_option maxRecDepth 100000 in
set_option maxHeartbeats 4000000 in
theorem valueFinds_np (b d n e l k : Int) (w : World) (hR : Vars w) (B D N E : Int) (HV : Hid (∀ w, Calls Tryz.prog 14 #[vl b d n e] w fun ed w' => ed = .returned (vl B D N E) ∧ Below w.heap.size w w')) (X Y : Int) (HF : Hid (∀ w, Vars w → Calls Tryz.prog 27 #[rt l k] w fun ed w' => ed = .returned (.tuple #[vl 0 0 0 0, .bool false]) ∧ Below w.heap.size w w')) (HL : Hid (∀ w, Vars w → Calls Tryz.prog 15 #[vl 0 0 0 0] w fun ed w' => ed = .returned (rv X Y 0) ∧ Below w.heap.size w w')) (aN aD bN bD : Int) (HA : Hid (∀ w, Vars w → Calls Tryz.prog 15 #[vl B D 0 0] w fun ed w' => ed = .returned (rv aN aD 0) ∧ Below w.heap.size w w')) (HG : Hid (∀ w, Vars w → Calls Tryz.prog 27 #[rt aN aD] w fun ed w' => ed = .returned (.tuple #[vl B D 0 0, .bool true]) ∧ Below w.heap.size w w')) (HB : Hid (∀ w, Vars w → Calls Tryz.prog 15 #[vl B D 3 2] w fun ed w' => ed = .returned (rv bN bD 0) ∧ Below w.heap.size w w')) (h0 h1 h3 : Int) (hne : eqV h0 h1 0 h3 B D 3 2 = false) (HH : Hid (∀ w, Vars w → Calls Tryz.prog 27 #[rt bN bD] w fun ed w' => ed = .returned (.tuple #[vl h0 h1 0 h3, .bool true]) ∧ Below w.heap.size w w')) (HK : Hid (∀ w, Vars w → Calls Tryz.prog 28 #[vl h0 h1 0 h3] w fun ed w' => ed = .returned (rt bN bD) ∧ Below w.heap.size w w')) :
    Calls Tryz.prog 6 #[vl b d n e, rt l k] w fun ed w' => ed = .returned (.bool true) ∧ Below w.heap.size w w' := by
  have hgR := guardR
  have hgV := guardV
  have heR := eql_rt
  have heV := eql_vl
  have hnR := neq_rt
  have hnV := neq_vl
  have hsR := eqR_self
  have hsV := eqV_self
  have hB0 : Below w.heap.size w w := Below.refl _ _
  go_enter Tryz.func6, Tryz.ntmps6
  go_wp2_with fail
  have hR' := hR.below ((hB0.alloc hB0.size (.cells #[.int .i64 b, .int .i64 d, .int .i64 n, .int .i64 e] 23)).alloc (hB0.alloc hB0.size (.cells #[.int .i64 b, .int .i64 d, .int .i64 n, .int .i64 e] 23)).size (.cells #[.int .i64 l, .int .i64 k] 25))
  refine (examples_any _ hR').mono ?_
  rintro e w1 ⟨rfl, hb1⟩
  clear hR'
  have hs1 : Below w.heap.size w w1 := Below.trans (by repeat (first | exact Below.refl _ _ | refine Below.alloc ?_ (by simp <;> omega) _)) (hb1.mono (by simp <;> omega))
  have c_v_0 : w1.cell? ⟨w.heap.size, 0, none⟩ = some (.int .i64 b) := (hb1.cell (by simp <;> omega)).trans (by go_simp)
  have c_v_1 : w1.cell? ⟨w.heap.size, 1, none⟩ = some (.int .i64 d) := (hb1.cell (by simp <;> omega)).trans (by go_simp)
  have c_v_2 : w1.cell? ⟨w.heap.size, 2, none⟩ = some (.int .i64 n) := (hb1.cell (by simp <;> omega)).trans (by go_simp)
  have c_v_3 : w1.cell? ⟨w.heap.size, 3, none⟩ = some (.int .i64 e) := (hb1.cell (by simp <;> omega)).trans (by go_simp)
  have c_l_0 : w1.cell? ⟨w.heap.size + 1, 0, none⟩ = some (.int .i64 l) := (hb1.cell (by simp <;> omega)).trans (by go_simp)
  have c_l_1 : w1.cell? ⟨w.heap.size + 1, 1, none⟩ = some (.int .i64 k) := (hb1.cell (by simp <;> omega)).trans (by go_simp)
  have z_l := World.block_lt_of_cell? _ _ c_l_0
  have z_v := World.block_lt_of_cell? _ _ c_v_0
  have hB1 := below_two hB0 hs1
  clear hB0 hs1 hb1
  go_wp2_with fail
  have hR' := hR.below hB1
  refine (HF.out _ hR').mono ?_
  rintro e w2 ⟨rfl, hb2⟩
  clear hR'
  have hs2 := hb2
  replace c_v_0 := cell_later hs2 c_v_0
  replace c_v_1 := cell_later hs2 c_v_1
  replace c_v_2 := cell_later hs2 c_v_2
  replace c_v_3 := cell_later hs2 c_v_3
  replace c_l_0 := cell_later hs2 c_l_0
  replace c_l_1 := cell_later hs2 c_l_1
  clear z_l
  have z_l := World.block_lt_of_cell? _ _ c_l_0
  clear z_v
  have z_v := World.block_lt_of_cell? _ _ c_v_0
  have hB2 := below_two hB1 hs2
  clear hB1 hs2
  go_wp2_with fail
  have hR' := hR.below (hB2.alloc hB2.size (.cells #[.int .i64 0, .int .i64 0, .int .i64 0, .int .i64 0] 23))
  refine (HL.out _ hR').mono ?_
  rintro e w3 ⟨rfl, hb3⟩
  clear hR'
  have hs3 : Below w2.heap.size w2 w3 := Below.trans (by repeat (first | exact Below.refl _ _ | refine Below.alloc ?_ (by simp <;> omega) _)) (hb3.mono (by simp <;> omega))
  replace c_v_0 := cell_later hs3 c_v_0
  replace c_v_1 := cell_later hs3 c_v_1
  replace c_v_2 := cell_later hs3 c_v_2
  replace c_v_3 := cell_later hs3 c_v_3
  replace c_l_0 := cell_later hs3 c_l_0
  replace c_l_1 := cell_later hs3 c_l_1
  have c_f_0 : w3.cell? ⟨w2.heap.size, 0, none⟩ = some (.int .i64 0) := (hb3.cell (by simp <;> omega)).trans (by go_simp)
  have c_f_1 : w3.cell? ⟨w2.heap.size, 1, none⟩ = some (.int .i64 0) := (hb3.cell (by simp <;> omega)).trans (by go_simp)
  have c_f_2 : w3.cell? ⟨w2.heap.size, 2, none⟩ = some (.int .i64 0) := (hb3.cell (by simp <;> omega)).trans (by go_simp)
  have c_f_3 : w3.cell? ⟨w2.heap.size, 3, none⟩ = some (.int .i64 0) := (hb3.cell (by simp <;> omega)).trans (by go_simp)
  have z_f := World.block_lt_of_cell? _ _ c_f_0
  clear z_l
  have z_l := World.block_lt_of_cell? _ _ c_l_0
  clear z_v
  have z_v := World.block_lt_of_cell? _ _ c_v_0
  have hB3 := below_two hB2 hs3
  clear hB2 hs3 hb3
  go_wp2_with fail
  have hR' := hR.below (hB3.alloc hB3.size (.cells #[.int .i64 X, .int .i64 Y] 25))
  refine (HV.out _).mono ?_
  rintro e w4 ⟨rfl, hb4⟩
  clear hR'
  have hs4 : Below w3.heap.size w3 w4 := Below.trans (by repeat (first | exact Below.refl _ _ | refine Below.alloc ?_ (by simp <;> omega) _)) (hb4.mono (by simp <;> omega))
  clear c_v_0
  clear c_v_1
  clear c_v_2
  clear c_v_3
  clear c_l_0
  clear c_l_1
  clear c_f_0
  clear c_f_1
  clear c_f_2
  clear c_f_3
  clear z_f
  clear z_l
  clear z_v
  have hB4 := below_two hB3 hs4
  clear hB3 hs4 hb4
  go_wp2_with fail
  have hR' := hR.below ((hB4.alloc hB4.size (.cells #[.int .i64 B, .int .i64 D, .int .i64 N, .int .i64 E] 23)).alloc (hB4.alloc hB4.size (.cells #[.int .i64 B, .int .i64 D, .int .i64 N, .int .i64 E] 23)).size (.cells #[.int .i64 B, .int .i64 D, .int .i64 0, .int .i64 0] 23))
  refine (HA.out _ hR').mono ?_
  rintro e w5 ⟨rfl, hb5⟩
  clear hR'
  have hs5 : Below w4.heap.size w4 w5 := Below.trans (by repeat (first | exact Below.refl _ _ | refine Below.alloc ?_ (by simp <;> omega) _)) (hb5.mono (by simp <;> omega))
  have c_p_0 : w5.cell? ⟨w4.heap.size + 1, 0, none⟩ = some (.int .i64 B) := (hb5.cell (by simp <;> omega)).trans (by go_simp)
  have c_p_1 : w5.cell? ⟨w4.heap.size + 1, 1, none⟩ = some (.int .i64 D) := (hb5.cell (by simp <;> omega)).trans (by go_simp)
  have c_p_2 : w5.cell? ⟨w4.heap.size + 1, 2, none⟩ = some (.int .i64 0) := (hb5.cell (by simp <;> omega)).trans (by go_simp)
  have c_p_3 : w5.cell? ⟨w4.heap.size + 1, 3, none⟩ = some (.int .i64 0) := (hb5.cell (by simp <;> omega)).trans (by go_simp)
  have z_p := World.block_lt_of_cell? _ _ c_p_0
  have hB5 := below_two hB4 hs5
  clear hB4 hs5 hb5
  go_wp2_with fail
  have hR' := hR.below (hB5.alloc hB5.size (.cells #[.int .i64 aN, .int .i64 aD] 25))
  refine (HG.out _ hR').mono ?_
  rintro e w6 ⟨rfl, hb6⟩
  clear hR'
  have hs6 : Below w5.heap.size w5 w6 := Below.trans (by repeat (first | exact Below.refl _ _ | refine Below.alloc ?_ (by simp <;> omega) _)) (hb6.mono (by simp <;> omega))
  replace c_p_0 := cell_later hs6 c_p_0
  replace c_p_1 := cell_later hs6 c_p_1
  replace c_p_2 := cell_later hs6 c_p_2
  replace c_p_3 := cell_later hs6 c_p_3
  clear z_p
  have z_p := World.block_lt_of_cell? _ _ c_p_0
  have hB6 := below_two hB5 hs6
  clear hB5 hs6 hb6
  go_wp2_with fail
  have hR' := hR.below ((hB6.alloc hB6.size (.cells #[.int .i64 B, .int .i64 D, .int .i64 0, .int .i64 0] 23)).alloc (hB6.alloc hB6.size (.cells #[.int .i64 B, .int .i64 D, .int .i64 0, .int .i64 0] 23)).size (.cells #[.int .i64 B, .int .i64 D, .int .i64 3, .int .i64 2] 23))
  refine (HB.out _ hR').mono ?_
  rintro e w7 ⟨rfl, hb7⟩
  clear hR'
  have hs7 : Below w6.heap.size w6 w7 := Below.trans (by repeat (first | exact Below.refl _ _ | refine Below.alloc ?_ (by simp <;> omega) _)) (hb7.mono (by simp <;> omega))
  replace c_p_0 := cell_later hs7 c_p_0
  replace c_p_1 := cell_later hs7 c_p_1
  replace c_p_2 := cell_later hs7 c_p_2
  replace c_p_3 := cell_later hs7 c_p_3
  have c_q_0 : w7.cell? ⟨w6.heap.size, 0, none⟩ = some (.int .i64 B) := (hb7.cell (by simp <;> omega)).trans (by go_simp)
  have c_q_1 : w7.cell? ⟨w6.heap.size, 1, none⟩ = some (.int .i64 D) := (hb7.cell (by simp <;> omega)).trans (by go_simp)
  have c_q_2 : w7.cell? ⟨w6.heap.size, 2, none⟩ = some (.int .i64 0) := (hb7.cell (by simp <;> omega)).trans (by go_simp)
  have c_q_3 : w7.cell? ⟨w6.heap.size, 3, none⟩ = some (.int .i64 0) := (hb7.cell (by simp <;> omega)).trans (by go_simp)
  have c_t_0 : w7.cell? ⟨w6.heap.size + 1, 0, none⟩ = some (.int .i64 B) := (hb7.cell (by simp <;> omega)).trans (by go_simp)
  have c_t_1 : w7.cell? ⟨w6.heap.size + 1, 1, none⟩ = some (.int .i64 D) := (hb7.cell (by simp <;> omega)).trans (by go_simp)
  have c_t_2 : w7.cell? ⟨w6.heap.size + 1, 2, none⟩ = some (.int .i64 3) := (hb7.cell (by simp <;> omega)).trans (by go_simp)
  have c_t_3 : w7.cell? ⟨w6.heap.size + 1, 3, none⟩ = some (.int .i64 2) := (hb7.cell (by simp <;> omega)).trans (by go_simp)
  clear z_p
  have z_p := World.block_lt_of_cell? _ _ c_p_0
  have z_q := World.block_lt_of_cell? _ _ c_q_0
  have z_t := World.block_lt_of_cell? _ _ c_t_0
  have hB7 := below_two hB6 hs7
  clear hB6 hs7 hb7
  go_wp2_with fail
  have hR' := hR.below (hB7.alloc hB7.size (.cells #[.int .i64 bN, .int .i64 bD] 25))
  refine (HH.out _ hR').mono ?_
  rintro e w8 ⟨rfl, hb8⟩
  clear hR'
  have hs8 : Below w7.heap.size w7 w8 := Below.trans (by repeat (first | exact Below.refl _ _ | refine Below.alloc ?_ (by simp <;> omega) _)) (hb8.mono (by simp <;> omega))
  replace c_p_0 := cell_later hs8 c_p_0
  replace c_p_1 := cell_later hs8 c_p_1
  replace c_p_2 := cell_later hs8 c_p_2
  replace c_p_3 := cell_later hs8 c_p_3
  replace c_q_0 := cell_later hs8 c_q_0
  replace c_q_1 := cell_later hs8 c_q_1
  replace c_q_2 := cell_later hs8 c_q_2
  replace c_q_3 := cell_later hs8 c_q_3
  replace c_t_0 := cell_later hs8 c_t_0
  replace c_t_1 := cell_later hs8 c_t_1
  replace c_t_2 := cell_later hs8 c_t_2
  replace c_t_3 := cell_later hs8 c_t_3
  have c_c_0 : w8.cell? ⟨w7.heap.size, 0, none⟩ = some (.int .i64 bN) := (hb8.cell (by simp <;> omega)).trans (by go_simp)
  have c_c_1 : w8.cell? ⟨w7.heap.size, 1, none⟩ = some (.int .i64 bD) := (hb8.cell (by simp <;> omega)).trans (by go_simp)
  have z_c := World.block_lt_of_cell? _ _ c_c_0
  clear z_p
  have z_p := World.block_lt_of_cell? _ _ c_p_0
  clear z_q
  have z_q := World.block_lt_of_cell? _ _ c_q_0
  clear z_t
  have z_t := World.block_lt_of_cell? _ _ c_t_0
  have hB8 := below_two hB7 hs8
  clear hB7 hs8 hb8
  go_wp2_with fail
  have hs9 : Below w8.heap.size w8 (w8.alloc (.cells #[.int .i64 h0, .int .i64 h1, .int .i64 0, .int .i64 h3] 23)) := by repeat (first | exact Below.refl _ _ | refine Below.alloc ?_ (by simp <;> omega) _)
  replace c_p_0 := cell_later hs9 c_p_0
  replace c_p_1 := cell_later hs9 c_p_1
  replace c_p_2 := cell_later hs9 c_p_2
  replace c_p_3 := cell_later hs9 c_p_3
  replace c_q_0 := cell_later hs9 c_q_0
  replace c_q_1 := cell_later hs9 c_q_1
  replace c_q_2 := cell_later hs9 c_q_2
  replace c_q_3 := cell_later hs9 c_q_3
  replace c_t_0 := cell_later hs9 c_t_0
  replace c_t_1 := cell_later hs9 c_t_1
  replace c_t_2 := cell_later hs9 c_t_2
  replace c_t_3 := cell_later hs9 c_t_3
  replace c_c_0 := cell_later hs9 c_c_0
  replace c_c_1 := cell_later hs9 c_c_1
  have c_h_0 : (w8.alloc (.cells #[.int .i64 h0, .int .i64 h1, .int .i64 0, .int .i64 h3] 23)).cell? ⟨w8.heap.size, 0, none⟩ = some (.int .i64 h0) := by go_simp
  have c_h_1 : (w8.alloc (.cells #[.int .i64 h0, .int .i64 h1, .int .i64 0, .int .i64 h3] 23)).cell? ⟨w8.heap.size, 1, none⟩ = some (.int .i64 h1) := by go_simp
  have c_h_2 : (w8.alloc (.cells #[.int .i64 h0, .int .i64 h1, .int .i64 0, .int .i64 h3] 23)).cell? ⟨w8.heap.size, 2, none⟩ = some (.int .i64 0) := by go_simp
  have c_h_3 : (w8.alloc (.cells #[.int .i64 h0, .int .i64 h1, .int .i64 0, .int .i64 h3] 23)).cell? ⟨w8.heap.size, 3, none⟩ = some (.int .i64 h3) := by go_simp
  have hB9 := below_two hB8 hs9
  clear hB8 hs9
  have y9_c := z_c
  have y9_p := z_p
  have y9_q := z_q
  have y9_t := z_t
  generalize (w8.alloc (.cells #[.int .i64 h0, .int .i64 h1, .int .i64 0, .int .i64 h3] 23)) = w9 at *
  clear z_c
  have z_c := World.block_lt_of_cell? _ _ c_c_0
  have z_h := World.block_lt_of_cell? _ _ c_h_0
  clear z_p
  have z_p := World.block_lt_of_cell? _ _ c_p_0
  clear z_q
  have z_q := World.block_lt_of_cell? _ _ c_q_0
  clear z_t
  have z_t := World.block_lt_of_cell? _ _ c_t_0
  have QB : Hid (∀ dd os, Below w.heap.size w (Go.Sort.grow (redrawn w9 dd) os)) := Lib.hid (fun dd os => below_two hB9 (below_regrown w9 dd os))
  have g_c_p_0 := fun dd os => cell_regrown c_p_0 dd os
  have g_c_p_1 := fun dd os => cell_regrown c_p_1 dd os
  have g_c_p_2 := fun dd os => cell_regrown c_p_2 dd os
  have g_c_p_3 := fun dd os => cell_regrown c_p_3 dd os
  have g_c_q_0 := fun dd os => cell_regrown c_q_0 dd os
  have g_c_q_1 := fun dd os => cell_regrown c_q_1 dd os
  have g_c_q_2 := fun dd os => cell_regrown c_q_2 dd os
  have g_c_q_3 := fun dd os => cell_regrown c_q_3 dd os
  have g_c_t_0 := fun dd os => cell_regrown c_t_0 dd os
  have g_c_t_1 := fun dd os => cell_regrown c_t_1 dd os
  have g_c_t_2 := fun dd os => cell_regrown c_t_2 dd os
  have g_c_t_3 := fun dd os => cell_regrown c_t_3 dd os
  have g_c_c_0 := fun dd os => cell_regrown c_c_0 dd os
  have g_c_c_1 := fun dd os => cell_regrown c_c_1 dd os
  have g_c_h_0 := fun dd os => cell_regrown c_h_0 dd os
  have g_c_h_1 := fun dd os => cell_regrown c_h_1 dd os
  have g_c_h_2 := fun dd os => cell_regrown c_h_2 dd os
  have g_c_h_3 := fun dd os => cell_regrown c_h_3 dd os
  have q0 : Hid (∀ dd os, Calls Tryz.prog 28 #[vl h0 h1 0 h3] (Go.Sort.grow (redrawn w9 dd) os) fun e w'' => e = .returned (rt bN bD) ∧ ∃ p : Regrown, w'' = Go.Sort.grow (redrawn w9 p.d) p.os) := Lib.hid (fun dd os => Calls.regrown_of (HK.out (Go.Sort.grow (redrawn w9 dd) os) (hR.below (QB.out dd os))))
  refine wp_region_quiet_below (by kernel_rfl) (by kernel_rfl) ?_
  repeat (go_big_quiet_step (first | (go_at_call 28; exact q0.out _ _)))
  refine wpQuiet_nil ?_
  intro _ hw'
  obtain ⟨⟨dq, osq⟩, hw''⟩ := hw'
  subst hw''
  replace c_p_0 := g_c_p_0 dq osq
  clear g_c_p_0
  replace c_p_1 := g_c_p_1 dq osq
  clear g_c_p_1
  replace c_p_2 := g_c_p_2 dq osq
  clear g_c_p_2
  replace c_p_3 := g_c_p_3 dq osq
  clear g_c_p_3
  replace c_q_0 := g_c_q_0 dq osq
  clear g_c_q_0
  replace c_q_1 := g_c_q_1 dq osq
  clear g_c_q_1
  replace c_q_2 := g_c_q_2 dq osq
  clear g_c_q_2
  replace c_q_3 := g_c_q_3 dq osq
  clear g_c_q_3
  replace c_t_0 := g_c_t_0 dq osq
  clear g_c_t_0
  replace c_t_1 := g_c_t_1 dq osq
  clear g_c_t_1
  replace c_t_2 := g_c_t_2 dq osq
  clear g_c_t_2
  replace c_t_3 := g_c_t_3 dq osq
  clear g_c_t_3
  replace c_c_0 := g_c_c_0 dq osq
  clear g_c_c_0
  replace c_c_1 := g_c_c_1 dq osq
  clear g_c_c_1
  replace c_h_0 := g_c_h_0 dq osq
  clear g_c_h_0
  replace c_h_1 := g_c_h_1 dq osq
  clear g_c_h_1
  replace c_h_2 := g_c_h_2 dq osq
  clear g_c_h_2
  replace c_h_3 := g_c_h_3 dq osq
  clear g_c_h_3
  clear q0
  have hB10 := QB.out dq osq
  clear QB hB9 z_c z_h z_p z_q z_t
  generalize Go.Sort.grow (redrawn w9 dq) osq = w10 at *
  have z_c := World.block_lt_of_cell? _ _ c_c_0
  have z_h := World.block_lt_of_cell? _ _ c_h_0
  have z_p := World.block_lt_of_cell? _ _ c_p_0
  have z_q := World.block_lt_of_cell? _ _ c_q_0
  have z_t := World.block_lt_of_cell? _ _ c_t_0
  go_wp2
  go_ret
  exact ⟨rfl, hB10⟩

theorem plain_found_all : ∀ b : Fin 7, ∀ d : Fin 3, Val.fnd (Val.lenN b.val d.val 0 0) (Val.lenD b.val d.val 0 0) = 21 * 0 + 3 * b.val + d.val := by decide +kernel
theorem tuplet_found_all : ∀ b : Fin 7, ∀ d : Fin 3, Val.fnd (Val.lenN b.val d.val 3 2) (Val.lenD b.val d.val 3 2) = 21 * 1 + 3 * b.val + d.val ∨ Val.fnd (Val.lenN b.val d.val 3 2) (Val.lenD b.val d.val 3 2) < 21 := by decide +kernel
theorem fv_lt {k : Nat} (h : k < 84) : fv k = .tuple #[vl (Val.cB k) (Val.cT k) (Val.kN (k / 21)) (Val.kE (k / 21)), .bool true] := by unfold fv; rw [if_pos h]
theorem c_ok {k : Nat} (h : k < 84) : Val.ok (Val.cB k) (Val.cT k) (Val.kN (k / 21)) (Val.kE (k / 21)) = true := Val.k_ok (by omega) (by unfold Val.cB; omega) (by unfold Val.cB; omega) (by unfold Val.cT; omega) (by unfold Val.cT; omega)
theorem fnd_len {x y : Int} (h : Val.fnd x y < 84) : Val.lenN (Val.cB (Val.fnd x y)) (Val.cT (Val.fnd x y)) (Val.kN (Val.fnd x y / 21)) (Val.kE (Val.fnd x y / 21)) = x ∧ Val.lenD (Val.cB (Val.fnd x y)) (Val.cT (Val.fnd x y)) (Val.kN (Val.fnd x y / 21)) (Val.kE (Val.fnd x y / 21)) = y := by
  rcases Val.fst_spec (Val.isLen x y) 84 with ⟨e, _⟩ | ⟨_, e, _⟩
  · exfalso; unfold Val.fnd at h; omega
  · change Val.isLen x y (Val.fnd x y) = true at e
    unfold Val.isLen at e
    simpa using e
theorem right_call {x y z u : Int} (h : Val.ok x y z u = true) (w : World) : Calls Tryz.prog 19 #[vl x y z u] w fun ed w' => ed = .returned (.bool true) ∧ Below w.heap.size w w' := by
  have := vright_any x y z u w
  rw [h] at this
  exact this
theorem find_call {x y : Int} {v : Value} (h : fv (Val.fnd x y) = v) (w : World) (hR : Vars w) : Calls Tryz.prog 27 #[rt x y] w fun ed w' => ed = .returned v ∧ Below w.heap.size w w' := by
  have := find_any x y w hR
  rw [h] at this
  exact this
theorem valueFinds_calls (b d n e l k : Int) (ib : Rat.I64 b) (id' : Rat.I64 d) (in' : Rat.I64 n) (ie : Rat.I64 e) (_il : Rat.I64 l) (_ik : Rat.I64 k) (w : World) (hR : Vars w) :
    Calls Tryz.prog 6 #[vl b d n e, rt l k] w fun ed w' => ed = .returned (.bool true) ∧ Below w.heap.size w w' := by
  obtain ⟨N, E, hok, hv⟩ := value_fix b d n e ib id' in' ie
  obtain ⟨b0, b6, d0, d2, _⟩ := (Val.ok_iff _ _ _ _).1 hok
  generalize pickS b 7 = B at *
  generalize pickS d 3 = D at *
  have op : Val.ok B D 0 0 = true := (Val.ok_iff _ _ _ _).2 ⟨b0, b6, d0, d2, .inl ⟨rfl, rfl⟩⟩
  have o3 : Val.ok B D 3 2 = true := (Val.ok_iff _ _ _ _).2 ⟨b0, b6, d0, d2, .inr ⟨by omega, by omega, by omega, by omega, by omega⟩⟩
  obtain ⟨x, rfl⟩ : ∃ x : Nat, B = x := ⟨B.toNat, by omega⟩
  obtain ⟨y, rfl⟩ : ∃ y : Nat, D = y := ⟨D.toNat, by omega⟩
  have hg : fv (Val.fnd (Val.lenN x y 0 0) (Val.lenD x y 0 0)) = .tuple #[vl x y 0 0, .bool true] := by
    have := plain_found_all ⟨x, by omega⟩ ⟨y, by omega⟩
    simp only at this
    rw [this, fv_at (i := 0) (by omega) (by omega) (by omega)]
    rfl
  have HA := Lib.hid (fun w (hR : Vars w) => length_right op rfl rfl w hR)
  have HG := Lib.hid (fun w (hR : Vars w) => find_call hg w hR)
  have HB := Lib.hid (fun w (hR : Vars w) => length_right o3 rfl rfl w hR)
  have o0 : Val.ok 0 0 0 0 = true := by decide
  have hn : ∀ {X Y : Int}, ¬ Val.fnd X Y < 84 → fv (Val.fnd X Y) = .tuple #[vl 0 0 0 0, .bool false] := fun h => by unfold fv; rw [if_neg h]
  have ht := tuplet_found_all ⟨x, by omega⟩ ⟨y, by omega⟩
  simp only at ht
  by_cases h1 : Val.fnd (Val.lenN x y 3 2) (Val.lenD x y 3 2) < 21
  · have h84 : Val.fnd (Val.lenN x y 3 2) (Val.lenD x y 3 2) < 84 := by omega
    obtain ⟨e1, e2⟩ := fnd_len h84
    have hz := fv_lt h84
    have hok2 := c_ok h84
    generalize hj : Val.fnd (Val.lenN x y 3 2) (Val.lenD x y 3 2) = j at *
    have hj0 : j / 21 = 0 := by omega
    rw [hj0] at e1 e2 hz hok2
    have HH := Lib.hid (fun w (hR : Vars w) => find_call (x := Val.lenN x y 3 2) (y := Val.lenD x y 3 2) (v := .tuple #[vl (Val.cB j) (Val.cT j) (Val.kN 0) (Val.kE 0), .bool true]) (by rw [hj]; exact hz) w hR)
    have HK := Lib.hid (fun w (hR : Vars w) => by
      have := len_any (Val.cB j) (Val.cT j) (Val.kN 0) (Val.kE 0) w hR
      rw [e1, e2] at this
      exact this)
    have hne : eqV (Val.cB j) (Val.cT j) 0 (Val.kE 0) x y 3 2 = false := by
      cases h : eqV (Val.cB j) (Val.cT j) 0 (Val.kE 0) x y 3 2 with
      | false => rfl
      | true => have := ((eqV_iff _ _ _ _ _ _ _ _).1 h).2.2.1; omega
    by_cases hf : Val.fnd l k < 84
    · obtain ⟨q1, q2⟩ := fnd_len hf
      exact valueFinds_fp b d n e l k w hR x y N E (Lib.hid hv) _ _ _ _ (Lib.hid fun w hR => find_call (fv_lt hf) w hR) (Lib.hid fun w hR => length_right (c_ok hf) q1 q2 w hR) (Lib.hid (right_call (c_ok hf))) _ _ _ _ HA HG HB _ _ _ hne HH HK
    · exact valueFinds_np b d n e l k w hR x y N E (Lib.hid hv) _ _ (Lib.hid fun w hR => find_call (hn hf) w hR) (Lib.hid fun w hR => length_right o0 rfl rfl w hR) _ _ _ _ HA HG HB _ _ _ hne HH HK
  · have h2 := ht.resolve_right h1
    have HH := Lib.hid (fun w (hR : Vars w) => find_call (x := Val.lenN x y 3 2) (y := Val.lenD x y 3 2) (v := .tuple #[vl x y 3 2, .bool true]) (by rw [h2, fv_at (i := 1) (by omega) (by omega) (by omega)]; rfl) w hR)
    by_cases hf : Val.fnd l k < 84
    · obtain ⟨q1, q2⟩ := fnd_len hf
      exact valueFinds_fs b d n e l k w hR x y N E (Lib.hid hv) _ _ _ _ (Lib.hid fun w hR => find_call (fv_lt hf) w hR) (Lib.hid fun w hR => length_right (c_ok hf) q1 q2 w hR) (Lib.hid (right_call (c_ok hf))) _ _ _ _ HA HG HB HH
    · exact valueFinds_ns b d n e l k w hR x y N E (Lib.hid hv) _ _ (Lib.hid fun w hR => find_call (hn hf) w hR) (Lib.hid fun w hR => length_right o0 rfl rfl w hR) _ _ _ _ HA HG HB HH
end Go.Proofs.YtejiifkenanodaaGreatDoor
