/-
  ValueHalves answers true.
-/
import Derived.Test.YtejiifkenanodaaGreatDoorValL
import Derived.Test.YtejiifkenanodaaGreatDoorValFacts
namespace Go.Proofs.YtejiifkenanodaaGreatDoor
open Go.RowKit

set_option maxRecDepth 100000 in
set_option maxHeartbeats 4000000 in
theorem valueHalves_walk (b d n e : Int) (w : World) (hR : Vars w) (ib : Rat.I64 b) (B D N E p p1 : Int) (HP : Hid (pickS b 6 = p)) (hp1 : IntKind.i64.wrap (p + 1) = p1) (HV : Hid (∀ w, Calls Tryz.prog 14 #[vl b d n e] w fun ed w' => ed = .returned (vl B D N E) ∧ Below w.heap.size w w')) (aN aD bN bD cN cD dN dD qN qD : Int) (HA : Hid (∀ w, Vars w → Calls Tryz.prog 15 #[vl p 0 N E] w fun ed w' => ed = .returned (rv aN aD 0) ∧ Below w.heap.size w w')) (HB : Hid (∀ w, Vars w → Calls Tryz.prog 15 #[vl p1 0 N E] w fun ed w' => ed = .returned (rv bN bD 0) ∧ Below w.heap.size w w')) (HC : Hid (∀ w, Vars w → Calls Tryz.prog 15 #[vl p 1 N E] w fun ed w' => ed = .returned (rv cN cD 0) ∧ Below w.heap.size w w')) (HD : Hid (∀ w, Vars w → Calls Tryz.prog 15 #[vl p 2 N E] w fun ed w' => ed = .returned (rv dN dD 0) ∧ Below w.heap.size w w')) (H1 : Hid (∀ w, Calls Tryz.prog 24 #[rt bN bD, rt bN bD] w fun ed w' => ed = .returned (rv aN aD 0) ∧ Below w.heap.size w w')) (H2 : Hid (∀ w, Calls Tryz.prog 24 #[rt aN aD, rt bN bD] w fun ed w' => ed = .returned (rv cN cD 0) ∧ Below w.heap.size w w')) (H3 : Hid (∀ w, Calls Tryz.prog 25 #[rt bN bD, rt 1 2] w fun ed w' => ed = .returned (rv qN qD 0) ∧ Below w.heap.size w w')) (H4 : Hid (∀ w, Calls Tryz.prog 24 #[rt cN cD, rt qN qD] w fun ed w' => ed = .returned (rv dN dD 0) ∧ Below w.heap.size w w')) :
    Calls Tryz.prog 4 #[vl b d n e] w fun ed w' => ed = .returned (.bool true) ∧ Below w.heap.size w w' := by
  have hgR := guardR
  have hgV := guardV
  have heR := eql_rt
  have heV := eql_vl
  have hnR := neq_rt
  have hnV := neq_vl
  have hsR := eqR_self
  have hsV := eqV_self
  have hB0 : Below w.heap.size w w := Below.refl _ _
  go_enter Tryz.func4, Tryz.ntmps4
  go_wp2_with fail
  have hR' := hR.below (hB0.alloc hB0.size (.cells #[.int .i64 b, .int .i64 d, .int .i64 n, .int .i64 e] 23))
  refine (examples_any _ hR').mono ?_
  rintro e w1 ⟨rfl, hb1⟩
  clear hR'
  have hs1 : Below w.heap.size w w1 := Below.trans (by repeat (first | exact Below.refl _ _ | refine Below.alloc ?_ (by simp <;> omega) _)) (hb1.mono (by simp <;> omega))
  have c_v_0 : w1.cell? ⟨w.heap.size, 0, none⟩ = some (.int .i64 b) := (hb1.cell (by simp <;> omega)).trans (by go_simp)
  have c_v_1 : w1.cell? ⟨w.heap.size, 1, none⟩ = some (.int .i64 d) := (hb1.cell (by simp <;> omega)).trans (by go_simp)
  have c_v_2 : w1.cell? ⟨w.heap.size, 2, none⟩ = some (.int .i64 n) := (hb1.cell (by simp <;> omega)).trans (by go_simp)
  have c_v_3 : w1.cell? ⟨w.heap.size, 3, none⟩ = some (.int .i64 e) := (hb1.cell (by simp <;> omega)).trans (by go_simp)
  have z_v := World.block_lt_of_cell? _ _ c_v_0
  have hB1 := below_two hB0 hs1
  clear hB0 hs1 hb1
  go_wp2_with fail
  have hR' := hR.below hB1
  refine (HV.out _).mono ?_
  rintro e w2 ⟨rfl, hb2⟩
  clear hR'
  have hs2 := hb2
  replace c_v_0 := cell_later hs2 c_v_0
  replace c_v_1 := cell_later hs2 c_v_1
  replace c_v_2 := cell_later hs2 c_v_2
  replace c_v_3 := cell_later hs2 c_v_3
  clear z_v
  have z_v := World.block_lt_of_cell? _ _ c_v_0
  have hB2 := below_two hB1 hs2
  clear hB1 hs2
  go_wp2_with fail
  refine (pick_any b 6 _ ib (by decide) (by decide)).mono ?_
  rintro e wx ⟨rfl, rfl⟩
  rw [HP.out]
  go_wp2_with fail
  have hR' := hR.below ((((hB2.alloc hB2.size (.cells #[.int .i64 p, .int .i64 0, .int .i64 N, .int .i64 E] 23)).alloc (hB2.alloc hB2.size (.cells #[.int .i64 p, .int .i64 0, .int .i64 N, .int .i64 E] 23)).size (.cells #[.int .i64 p1, .int .i64 0, .int .i64 N, .int .i64 E] 23)).alloc ((hB2.alloc hB2.size (.cells #[.int .i64 p, .int .i64 0, .int .i64 N, .int .i64 E] 23)).alloc (hB2.alloc hB2.size (.cells #[.int .i64 p, .int .i64 0, .int .i64 N, .int .i64 E] 23)).size (.cells #[.int .i64 p1, .int .i64 0, .int .i64 N, .int .i64 E] 23)).size (.cells #[.int .i64 p, .int .i64 1, .int .i64 N, .int .i64 E] 23)).alloc (((hB2.alloc hB2.size (.cells #[.int .i64 p, .int .i64 0, .int .i64 N, .int .i64 E] 23)).alloc (hB2.alloc hB2.size (.cells #[.int .i64 p, .int .i64 0, .int .i64 N, .int .i64 E] 23)).size (.cells #[.int .i64 p1, .int .i64 0, .int .i64 N, .int .i64 E] 23)).alloc ((hB2.alloc hB2.size (.cells #[.int .i64 p, .int .i64 0, .int .i64 N, .int .i64 E] 23)).alloc (hB2.alloc hB2.size (.cells #[.int .i64 p, .int .i64 0, .int .i64 N, .int .i64 E] 23)).size (.cells #[.int .i64 p1, .int .i64 0, .int .i64 N, .int .i64 E] 23)).size (.cells #[.int .i64 p, .int .i64 1, .int .i64 N, .int .i64 E] 23)).size (.cells #[.int .i64 p, .int .i64 2, .int .i64 N, .int .i64 E] 23))
  refine (HA.out _ hR').mono ?_
  rintro e w3 ⟨rfl, hb3⟩
  clear hR'
  have hs3 : Below w2.heap.size w2 w3 := Below.trans (by repeat (first | exact Below.refl _ _ | refine Below.alloc ?_ (by simp <;> omega) _)) (hb3.mono (by simp <;> omega))
  clear c_v_0
  clear c_v_1
  clear c_v_2
  clear c_v_3
  have c_h_0 : w3.cell? ⟨w2.heap.size + 1, 0, none⟩ = some (.int .i64 p1) := (hb3.cell (by simp <;> omega)).trans (by go_simp)
  have c_h_1 : w3.cell? ⟨w2.heap.size + 1, 1, none⟩ = some (.int .i64 0) := (hb3.cell (by simp <;> omega)).trans (by go_simp)
  have c_h_2 : w3.cell? ⟨w2.heap.size + 1, 2, none⟩ = some (.int .i64 N) := (hb3.cell (by simp <;> omega)).trans (by go_simp)
  have c_h_3 : w3.cell? ⟨w2.heap.size + 1, 3, none⟩ = some (.int .i64 E) := (hb3.cell (by simp <;> omega)).trans (by go_simp)
  have c_o_0 : w3.cell? ⟨w2.heap.size + 1 + 1, 0, none⟩ = some (.int .i64 p) := (hb3.cell (by simp <;> omega)).trans (by go_simp)
  have c_o_1 : w3.cell? ⟨w2.heap.size + 1 + 1, 1, none⟩ = some (.int .i64 1) := (hb3.cell (by simp <;> omega)).trans (by go_simp)
  have c_o_2 : w3.cell? ⟨w2.heap.size + 1 + 1, 2, none⟩ = some (.int .i64 N) := (hb3.cell (by simp <;> omega)).trans (by go_simp)
  have c_o_3 : w3.cell? ⟨w2.heap.size + 1 + 1, 3, none⟩ = some (.int .i64 E) := (hb3.cell (by simp <;> omega)).trans (by go_simp)
  have c_t_0 : w3.cell? ⟨w2.heap.size + 1 + 1 + 1, 0, none⟩ = some (.int .i64 p) := (hb3.cell (by simp <;> omega)).trans (by go_simp)
  have c_t_1 : w3.cell? ⟨w2.heap.size + 1 + 1 + 1, 1, none⟩ = some (.int .i64 2) := (hb3.cell (by simp <;> omega)).trans (by go_simp)
  have c_t_2 : w3.cell? ⟨w2.heap.size + 1 + 1 + 1, 2, none⟩ = some (.int .i64 N) := (hb3.cell (by simp <;> omega)).trans (by go_simp)
  have c_t_3 : w3.cell? ⟨w2.heap.size + 1 + 1 + 1, 3, none⟩ = some (.int .i64 E) := (hb3.cell (by simp <;> omega)).trans (by go_simp)
  have z_h := World.block_lt_of_cell? _ _ c_h_0
  have z_o := World.block_lt_of_cell? _ _ c_o_0
  have z_t := World.block_lt_of_cell? _ _ c_t_0
  clear z_v
  have hB3 := below_two hB2 hs3
  clear hB2 hs3 hb3
  go_wp2_with fail
  have hR' := hR.below (hB3.alloc hB3.size (.cells #[.int .i64 aN, .int .i64 aD] 25))
  refine (HB.out _ hR').mono ?_
  rintro e w4 ⟨rfl, hb4⟩
  clear hR'
  have hs4 : Below w3.heap.size w3 w4 := Below.trans (by repeat (first | exact Below.refl _ _ | refine Below.alloc ?_ (by simp <;> omega) _)) (hb4.mono (by simp <;> omega))
  clear c_h_0
  clear c_h_1
  clear c_h_2
  clear c_h_3
  replace c_o_0 := cell_later hs4 c_o_0
  replace c_o_1 := cell_later hs4 c_o_1
  replace c_o_2 := cell_later hs4 c_o_2
  replace c_o_3 := cell_later hs4 c_o_3
  replace c_t_0 := cell_later hs4 c_t_0
  replace c_t_1 := cell_later hs4 c_t_1
  replace c_t_2 := cell_later hs4 c_t_2
  replace c_t_3 := cell_later hs4 c_t_3
  have c_a_0 : w4.cell? ⟨w3.heap.size, 0, none⟩ = some (.int .i64 aN) := (hb4.cell (by simp <;> omega)).trans (by go_simp)
  have c_a_1 : w4.cell? ⟨w3.heap.size, 1, none⟩ = some (.int .i64 aD) := (hb4.cell (by simp <;> omega)).trans (by go_simp)
  have z_a := World.block_lt_of_cell? _ _ c_a_0
  clear z_o
  have z_o := World.block_lt_of_cell? _ _ c_o_0
  clear z_t
  have z_t := World.block_lt_of_cell? _ _ c_t_0
  clear z_h
  have hB4 := below_two hB3 hs4
  clear hB3 hs4 hb4
  go_wp2_with fail
  have hR' := hR.below (hB4.alloc hB4.size (.cells #[.int .i64 bN, .int .i64 bD] 25))
  refine (HC.out _ hR').mono ?_
  rintro e w5 ⟨rfl, hb5⟩
  clear hR'
  have hs5 : Below w4.heap.size w4 w5 := Below.trans (by repeat (first | exact Below.refl _ _ | refine Below.alloc ?_ (by simp <;> omega) _)) (hb5.mono (by simp <;> omega))
  clear c_o_0
  clear c_o_1
  clear c_o_2
  clear c_o_3
  replace c_t_0 := cell_later hs5 c_t_0
  replace c_t_1 := cell_later hs5 c_t_1
  replace c_t_2 := cell_later hs5 c_t_2
  replace c_t_3 := cell_later hs5 c_t_3
  replace c_a_0 := cell_later hs5 c_a_0
  replace c_a_1 := cell_later hs5 c_a_1
  have c_b_0 : w5.cell? ⟨w4.heap.size, 0, none⟩ = some (.int .i64 bN) := (hb5.cell (by simp <;> omega)).trans (by go_simp)
  have c_b_1 : w5.cell? ⟨w4.heap.size, 1, none⟩ = some (.int .i64 bD) := (hb5.cell (by simp <;> omega)).trans (by go_simp)
  clear z_a
  have z_a := World.block_lt_of_cell? _ _ c_a_0
  have z_b := World.block_lt_of_cell? _ _ c_b_0
  clear z_t
  have z_t := World.block_lt_of_cell? _ _ c_t_0
  clear z_o
  have hB5 := below_two hB4 hs5
  clear hB4 hs5 hb5
  go_wp2_with fail
  have hR' := hR.below (hB5.alloc hB5.size (.cells #[.int .i64 cN, .int .i64 cD] 25))
  refine (HD.out _ hR').mono ?_
  rintro e w6 ⟨rfl, hb6⟩
  clear hR'
  have hs6 : Below w5.heap.size w5 w6 := Below.trans (by repeat (first | exact Below.refl _ _ | refine Below.alloc ?_ (by simp <;> omega) _)) (hb6.mono (by simp <;> omega))
  clear c_t_0
  clear c_t_1
  clear c_t_2
  clear c_t_3
  replace c_a_0 := cell_later hs6 c_a_0
  replace c_a_1 := cell_later hs6 c_a_1
  replace c_b_0 := cell_later hs6 c_b_0
  replace c_b_1 := cell_later hs6 c_b_1
  have c_c_0 : w6.cell? ⟨w5.heap.size, 0, none⟩ = some (.int .i64 cN) := (hb6.cell (by simp <;> omega)).trans (by go_simp)
  have c_c_1 : w6.cell? ⟨w5.heap.size, 1, none⟩ = some (.int .i64 cD) := (hb6.cell (by simp <;> omega)).trans (by go_simp)
  clear z_a
  have z_a := World.block_lt_of_cell? _ _ c_a_0
  clear z_b
  have z_b := World.block_lt_of_cell? _ _ c_b_0
  have z_c := World.block_lt_of_cell? _ _ c_c_0
  clear z_t
  have hB6 := below_two hB5 hs6
  clear hB5 hs6 hb6
  go_wp2_with fail
  have hR' := hR.below (hB6.alloc hB6.size (.cells #[.int .i64 dN, .int .i64 dD] 25))
  refine (H1.out _).mono ?_
  rintro e w7 ⟨rfl, hb7⟩
  clear hR'
  have hs7 : Below w6.heap.size w6 w7 := Below.trans (by repeat (first | exact Below.refl _ _ | refine Below.alloc ?_ (by simp <;> omega) _)) (hb7.mono (by simp <;> omega))
  replace c_a_0 := cell_later hs7 c_a_0
  replace c_a_1 := cell_later hs7 c_a_1
  replace c_b_0 := cell_later hs7 c_b_0
  replace c_b_1 := cell_later hs7 c_b_1
  replace c_c_0 := cell_later hs7 c_c_0
  replace c_c_1 := cell_later hs7 c_c_1
  have c_d_0 : w7.cell? ⟨w6.heap.size, 0, none⟩ = some (.int .i64 dN) := (hb7.cell (by simp <;> omega)).trans (by go_simp)
  have c_d_1 : w7.cell? ⟨w6.heap.size, 1, none⟩ = some (.int .i64 dD) := (hb7.cell (by simp <;> omega)).trans (by go_simp)
  clear z_a
  have z_a := World.block_lt_of_cell? _ _ c_a_0
  clear z_b
  have z_b := World.block_lt_of_cell? _ _ c_b_0
  clear z_c
  have z_c := World.block_lt_of_cell? _ _ c_c_0
  have z_d := World.block_lt_of_cell? _ _ c_d_0
  have hB7 := below_two hB6 hs7
  clear hB6 hs7 hb7
  go_wp2_with fail
  have hR' := hR.below (hB7.alloc hB7.size (.cells #[.int .i64 aN, .int .i64 aD] 25))
  refine (H2.out _).mono ?_
  rintro e w8 ⟨rfl, hb8⟩
  clear hR'
  have hs8 : Below w7.heap.size w7 w8 := Below.trans (by repeat (first | exact Below.refl _ _ | refine Below.alloc ?_ (by simp <;> omega) _)) (hb8.mono (by simp <;> omega))
  replace c_a_0 := cell_later hs8 c_a_0
  replace c_a_1 := cell_later hs8 c_a_1
  replace c_b_0 := cell_later hs8 c_b_0
  replace c_b_1 := cell_later hs8 c_b_1
  replace c_c_0 := cell_later hs8 c_c_0
  replace c_c_1 := cell_later hs8 c_c_1
  replace c_d_0 := cell_later hs8 c_d_0
  replace c_d_1 := cell_later hs8 c_d_1
  have c_tw_0 : w8.cell? ⟨w7.heap.size, 0, none⟩ = some (.int .i64 aN) := (hb8.cell (by simp <;> omega)).trans (by go_simp)
  have c_tw_1 : w8.cell? ⟨w7.heap.size, 1, none⟩ = some (.int .i64 aD) := (hb8.cell (by simp <;> omega)).trans (by go_simp)
  clear z_a
  have z_a := World.block_lt_of_cell? _ _ c_a_0
  clear z_b
  have z_b := World.block_lt_of_cell? _ _ c_b_0
  clear z_c
  have z_c := World.block_lt_of_cell? _ _ c_c_0
  clear z_d
  have z_d := World.block_lt_of_cell? _ _ c_d_0
  have z_tw := World.block_lt_of_cell? _ _ c_tw_0
  have hB8 := below_two hB7 hs8
  clear hB7 hs8 hb8
  go_wp2_with fail
  have hR' := hR.below (hB8.alloc hB8.size (.cells #[.int .i64 cN, .int .i64 cD] 25))
  refine (H3.out _).mono ?_
  rintro e w9 ⟨rfl, hb9⟩
  clear hR'
  have hs9 : Below w8.heap.size w8 w9 := Below.trans (by repeat (first | exact Below.refl _ _ | refine Below.alloc ?_ (by simp <;> omega) _)) (hb9.mono (by simp <;> omega))
  replace c_a_0 := cell_later hs9 c_a_0
  replace c_a_1 := cell_later hs9 c_a_1
  replace c_b_0 := cell_later hs9 c_b_0
  replace c_b_1 := cell_later hs9 c_b_1
  replace c_c_0 := cell_later hs9 c_c_0
  replace c_c_1 := cell_later hs9 c_c_1
  replace c_d_0 := cell_later hs9 c_d_0
  replace c_d_1 := cell_later hs9 c_d_1
  replace c_tw_0 := cell_later hs9 c_tw_0
  replace c_tw_1 := cell_later hs9 c_tw_1
  have c_mo_0 : w9.cell? ⟨w8.heap.size, 0, none⟩ = some (.int .i64 cN) := (hb9.cell (by simp <;> omega)).trans (by go_simp)
  have c_mo_1 : w9.cell? ⟨w8.heap.size, 1, none⟩ = some (.int .i64 cD) := (hb9.cell (by simp <;> omega)).trans (by go_simp)
  clear z_a
  have z_a := World.block_lt_of_cell? _ _ c_a_0
  clear z_b
  have z_b := World.block_lt_of_cell? _ _ c_b_0
  clear z_c
  have z_c := World.block_lt_of_cell? _ _ c_c_0
  clear z_d
  have z_d := World.block_lt_of_cell? _ _ c_d_0
  have z_mo := World.block_lt_of_cell? _ _ c_mo_0
  clear z_tw
  have z_tw := World.block_lt_of_cell? _ _ c_tw_0
  have hB9 := below_two hB8 hs9
  clear hB8 hs9 hb9
  go_wp2_with fail
  have hR' := hR.below (hB9.alloc hB9.size (.cells #[.int .i64 qN, .int .i64 qD] 25))
  refine (H4.out _).mono ?_
  rintro e w10 ⟨rfl, hb10⟩
  clear hR'
  have hs10 : Below w9.heap.size w9 w10 := Below.trans (by repeat (first | exact Below.refl _ _ | refine Below.alloc ?_ (by simp <;> omega) _)) (hb10.mono (by simp <;> omega))
  clear c_b_0
  clear c_b_1
  replace c_a_0 := cell_later hs10 c_a_0
  replace c_a_1 := cell_later hs10 c_a_1
  replace c_c_0 := cell_later hs10 c_c_0
  replace c_c_1 := cell_later hs10 c_c_1
  replace c_d_0 := cell_later hs10 c_d_0
  replace c_d_1 := cell_later hs10 c_d_1
  replace c_tw_0 := cell_later hs10 c_tw_0
  replace c_tw_1 := cell_later hs10 c_tw_1
  replace c_mo_0 := cell_later hs10 c_mo_0
  replace c_mo_1 := cell_later hs10 c_mo_1
  clear z_a
  have z_a := World.block_lt_of_cell? _ _ c_a_0
  clear z_c
  have z_c := World.block_lt_of_cell? _ _ c_c_0
  clear z_d
  have z_d := World.block_lt_of_cell? _ _ c_d_0
  clear z_mo
  have z_mo := World.block_lt_of_cell? _ _ c_mo_0
  clear z_tw
  have z_tw := World.block_lt_of_cell? _ _ c_tw_0
  clear z_b
  have hB10 := below_two hB9 hs10
  clear hB9 hs10 hb10
  go_wp2
  go_ret
  exact ⟨rfl, (hB10.alloc hB10.size (.cells #[.int .i64 dN, .int .i64 dD] 25))⟩

theorem ba_half {p : Int} (p0 : 0 ≤ p) (p5 : p < 6) : Val.ba p = 2 * Val.ba (p + 1) := by
  obtain rfl | rfl | rfl | rfl | rfl | rfl : p = 0 ∨ p = 1 ∨ p = 2 ∨ p = 3 ∨ p = 4 ∨ p = 5 := by omega
  all_goals decide
theorem add_call {a m c k p q : Int} (h1 : Val.Small a m) (h2 : Val.Small c k) (h3 : Val.Small p q) (e : p * (m * k) = (a * k + c * m) * q) (w : World) :
    Calls Tryz.prog 24 #[rt (Rat.ofN a m) (Rat.ofD a m), rt (Rat.ofN c k) (Rat.ofD c k)] w fun ed w' => ed = .returned (rv (Rat.ofN p q) (Rat.ofD p q) 0) ∧ Below w.heap.size w w' := by
  have := add_any (Rat.ofN a m) (Rat.ofD a m) (Rat.ofN c k) (Rat.ofD c k) w
  obtain ⟨x, y, z⟩ := Val.add_q h1 h2 h3 e
  rw [x, y, z] at this
  exact this
theorem sub_call {a m c k p q : Int} (h1 : Val.Small a m) (h2 : Val.Small c k) (h3 : Val.Small p q) (e : p * (m * k) = (a * k - c * m) * q) (w : World) :
    Calls Tryz.prog 32 #[rt (Rat.ofN a m) (Rat.ofD a m), rt (Rat.ofN c k) (Rat.ofD c k)] w fun ed w' => ed = .returned (rv (Rat.ofN p q) (Rat.ofD p q) 0) ∧ Below w.heap.size w w' := by
  have := sub_any (Rat.ofN a m) (Rat.ofD a m) (Rat.ofN c k) (Rat.ofD c k) w
  obtain ⟨x, y, z⟩ := Val.sub_q h1 h2 h3 e
  rw [x, y, z] at this
  exact this
theorem mul_call {a m c k p q : Int} (h1 : Val.Small a m) (h2 : Val.Small c k) (h3 : Val.Small p q) (e : p * (m * k) = (a * c) * q) (w : World) :
    Calls Tryz.prog 25 #[rt (Rat.ofN a m) (Rat.ofD a m), rt (Rat.ofN c k) (Rat.ofD c k)] w fun ed w' => ed = .returned (rv (Rat.ofN p q) (Rat.ofD p q) 0) ∧ Below w.heap.size w w' := by
  have := mul_any (Rat.ofN a m) (Rat.ofD a m) (Rat.ofN c k) (Rat.ofD c k) w
  obtain ⟨x, y, z⟩ := Val.mul_q h1 h2 h3 e
  rw [x, y, z] at this
  exact this
theorem cmp_call {a m c k : Int} (h1 : Val.Small a m) (h2 : Val.Small c k) (w : World) :
    Calls Tryz.prog 31 #[rt (Rat.ofN a m) (Rat.ofD a m), rt (Rat.ofN c k) (Rat.ofD c k)] w fun ed w' => ed = .returned (.int .i64 (Rat.sgn (a * k - c * m))) ∧ Below w.heap.size w w' := by
  have := compare_any (Rat.ofN a m) (Rat.ofD a m) (Rat.ofN c k) (Rat.ofD c k) w
  rw [Val.cmp_q h1 h2] at this
  exact this
theorem len_call {b d n e : Int} (h : Val.ok b d n e = true) (w : World) (hR : Vars w) :
    Calls Tryz.prog 15 #[vl b d n e] w fun ed w' => ed = .returned (rv (Rat.ofN (Val.lnN b d n e) (Val.lnD n)) (Rat.ofD (Val.lnN b d n e) (Val.lnD n)) 0) ∧ Below w.heap.size w w' :=
  length_right h (Val.len_small h).2.1 (Val.len_small h).2.2 w hR
theorem valueHalves_calls (b d n e : Int) (ib : Rat.I64 b) (id' : Rat.I64 d) (in' : Rat.I64 n) (ie : Rat.I64 e) (w : World) (hR : Vars w) :
    Calls Tryz.prog 4 #[vl b d n e] w fun ed w' => ed = .returned (.bool true) ∧ Below w.heap.size w w' := by
  obtain ⟨N, E, hok, hv⟩ := value_fix b d n e ib id' in' ie
  obtain ⟨p0, p6⟩ := pickS_bounds b (n := 6) (by decide)
  have hk := ((Val.ok_iff _ _ _ _).1 hok).2.2.2.2
  generalize hp : pickS b 6 = p at *
  have o0 : Val.ok p 0 N E = true := (Val.ok_iff _ _ _ _).2 ⟨p0, by omega, by omega, by omega, hk⟩
  have o1 : Val.ok (p + 1) 0 N E = true := (Val.ok_iff _ _ _ _).2 ⟨by omega, by omega, by omega, by omega, hk⟩
  have o2 : Val.ok p 1 N E = true := (Val.ok_iff _ _ _ _).2 ⟨p0, by omega, by omega, by omega, hk⟩
  have o3 : Val.ok p 2 N E = true := (Val.ok_iff _ _ _ _).2 ⟨p0, by omega, by omega, by omega, hk⟩
  have hb := ba_half p0 p6
  have ub := Val.ba_bounds (b := p + 1) (by omega) (by omega)
  have tb := Val.tn_bounds (n := N) (by omega)
  have eb := Val.te_bounds (n := N) (e := E) (by omega)
  have l0 : Val.lnN p 0 N E = 8 * (Val.ba (p + 1) * Val.te N E) := by unfold Val.lnN; rw [hb, show Val.dt 0 = 4 by decide]; grind
  have l1 : Val.lnN (p + 1) 0 N E = 4 * (Val.ba (p + 1) * Val.te N E) := by unfold Val.lnN; rw [show Val.dt 0 = 4 by decide]; grind
  have l2 : Val.lnN p 1 N E = 12 * (Val.ba (p + 1) * Val.te N E) := by unfold Val.lnN; rw [hb, show Val.dt 1 = 6 by decide]; grind
  have l3 : Val.lnN p 2 N E = 14 * (Val.ba (p + 1) * Val.te N E) := by unfold Val.lnN; rw [hb, show Val.dt 2 = 7 by decide]; grind
  have s0 := (Val.len_small o0).1
  have s1 := (Val.len_small o1).1
  have s2 := (Val.len_small o2).1
  have s3 := (Val.len_small o3).1
  have sh : Val.Small 1 2 := ⟨by omega, by omega, by omega, by omega⟩
  have sq : Val.Small (Val.lnN (p + 1) 0 N E) (2 * Val.lnD N) := ⟨s1.n0, s1.n1, by have := s1.d0; omega, by have := Val.ln_bounds o1; omega⟩
  have eh : Rat.ofN 1 2 = 1 ∧ Rat.ofD 1 2 = 2 := by decide +kernel
  refine valueHalves_walk b d n e w hR ib _ _ N E p (p + 1) (Lib.hid hp) (IntWalk.i64_in _ (by omega)) (Lib.hid hv) _ _ _ _ _ _ _ _ (Rat.ofN (Val.lnN (p + 1) 0 N E) (2 * Val.lnD N)) (Rat.ofD (Val.lnN (p + 1) 0 N E) (2 * Val.lnD N)) (Lib.hid (len_call o0)) (Lib.hid (len_call o1)) (Lib.hid (len_call o2)) (Lib.hid (len_call o3)) (Lib.hid (add_call s1 s1 s0 ?_)) (Lib.hid (add_call s0 s1 s2 ?_)) (Lib.hid ?_) (Lib.hid (add_call s2 sq s3 ?_))
  · rw [l0, l1]; grind
  · rw [l0, l1, l2]; grind
  · have := mul_call s1 sh sq (by grind)
    rw [eh.1, eh.2] at this
    exact this
  · rw [l1, l2, l3]; grind
end Go.Proofs.YtejiifkenanodaaGreatDoor
