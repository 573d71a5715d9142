/-
  ValueText answers true.
-/
import Derived.Test.YtejiifkenanodaaGreatDoorValL
import Derived.Test.YtejiifkenanodaaGreatDoorValFacts
namespace Go.Proofs.YtejiifkenanodaaGreatDoor
open Go.RowKit

set_option maxRecDepth 100000 in
set_option maxHeartbeats 4000000 in
theorem valueText_sy (b d n e b' d' n' e' : Int) (s : ByteArray) (w : World) (hR : Vars w) (x0 x1 x2 x3 : Int) (HV : Hid (∀ w, Calls Tryz.prog 14 #[vl b d n e] w fun ed w' => ed = .returned (vl x0 x1 x2 x3) ∧ Below w.heap.size w w')) (HW : Hid (∀ w, Calls Tryz.prog 14 #[vl b' d' n' e'] w fun ed w' => ed = .returned (vl x0 x1 x2 x3) ∧ Below w.heap.size w w')) (T : List UInt8) (HT : Hid (∀ w, Vars w → Calls Tryz.prog 17 #[vl x0 x1 x2 x3] w fun ed w' => ed = .returned (.tuple #[.string ⟨T.toArray⟩, .int .i64 0]) ∧ Below w.heap.size w w')) (HR : Hid (∀ w, Vars w → Calls Tryz.prog 12 #[.string ⟨T.toArray⟩] w fun ed w' => ed = .returned (.tuple #[vl x0 x1 x2 x3, .int .i64 0]) ∧ Below w.heap.size w w')) (F : ByteArray) (HF : Hid (s.extract 0 (min (s.size : Int) 30).toNat = F)) (z0 z1 z2 z3 : Int) (HZ : Hid (∀ w, Vars w → Calls Tryz.prog 12 #[.string F] w fun ed w' => ed = .returned (.tuple #[vl z0 z1 z2 z3, .int .i64 0]) ∧ Below w.heap.size w w')) (HB : Hid (∀ w, Vars w → Calls Tryz.prog 17 #[vl z0 z1 z2 z3] w fun ed w' => ed = .returned (.tuple #[.string ⟨F.data.toList.toArray⟩, .int .i64 0]) ∧ Below w.heap.size w w')) (HO : Hid (∀ w, Calls Tryz.prog 19 #[vl z0 z1 z2 z3] w fun ed w' => ed = .returned (.bool true) ∧ Below w.heap.size w w')) :
    Calls Tryz.prog 9 #[vl b d n e, vl b' d' n' e', .string s] w fun ed w' => ed = .returned (.bool true) ∧ Below w.heap.size w w' := by
  have hgR := guardR
  have hgV := guardV
  have heR := eql_rt
  have heV := eql_vl
  have hnR := neq_rt
  have hnV := neq_vl
  have hsR := eqR_self
  have hsV := eqV_self
  have hB0 : Below w.heap.size w w := Below.refl _ _
  go_enter Tryz.func9, Tryz.ntmps9
  go_wp2_with fail
  have hR' := hR.below ((hB0.alloc hB0.size (.cells #[.int .i64 b, .int .i64 d, .int .i64 n, .int .i64 e] 23)).alloc (hB0.alloc hB0.size (.cells #[.int .i64 b, .int .i64 d, .int .i64 n, .int .i64 e] 23)).size (.cells #[.int .i64 (b'), .int .i64 (d'), .int .i64 (n'), .int .i64 (e')] 23))
  refine (examples_any _ hR').mono ?_
  rintro e w1 ⟨rfl, hb1⟩
  clear hR'
  have hs1 : Below w.heap.size w w1 := Below.trans (by repeat (first | exact Below.refl _ _ | refine Below.alloc ?_ (by simp <;> omega) _)) (hb1.mono (by simp <;> omega))
  have c_v_0 : w1.cell? ⟨w.heap.size, 0, none⟩ = some (.int .i64 b) := (hb1.cell (by simp <;> omega)).trans (by go_simp)
  have c_v_1 : w1.cell? ⟨w.heap.size, 1, none⟩ = some (.int .i64 d) := (hb1.cell (by simp <;> omega)).trans (by go_simp)
  have c_v_2 : w1.cell? ⟨w.heap.size, 2, none⟩ = some (.int .i64 n) := (hb1.cell (by simp <;> omega)).trans (by go_simp)
  have c_v_3 : w1.cell? ⟨w.heap.size, 3, none⟩ = some (.int .i64 e) := (hb1.cell (by simp <;> omega)).trans (by go_simp)
  have c_u_0 : w1.cell? ⟨w.heap.size + 1, 0, none⟩ = some (.int .i64 (b')) := (hb1.cell (by simp <;> omega)).trans (by go_simp)
  have c_u_1 : w1.cell? ⟨w.heap.size + 1, 1, none⟩ = some (.int .i64 (d')) := (hb1.cell (by simp <;> omega)).trans (by go_simp)
  have c_u_2 : w1.cell? ⟨w.heap.size + 1, 2, none⟩ = some (.int .i64 (n')) := (hb1.cell (by simp <;> omega)).trans (by go_simp)
  have c_u_3 : w1.cell? ⟨w.heap.size + 1, 3, none⟩ = some (.int .i64 (e')) := (hb1.cell (by simp <;> omega)).trans (by go_simp)
  have z_u := World.block_lt_of_cell? _ _ c_u_0
  have z_v := World.block_lt_of_cell? _ _ c_v_0
  have hB1 := below_two hB0 hs1
  clear hB0 hs1 hb1
  go_wp2_with fail
  have hR' := hR.below hB1
  refine (HV.out _).mono ?_
  rintro e w2 ⟨rfl, hb2⟩
  clear hR'
  have hs2 := hb2
  clear c_v_0
  clear c_v_1
  clear c_v_2
  clear c_v_3
  replace c_u_0 := cell_later hs2 c_u_0
  replace c_u_1 := cell_later hs2 c_u_1
  replace c_u_2 := cell_later hs2 c_u_2
  replace c_u_3 := cell_later hs2 c_u_3
  clear z_u
  have z_u := World.block_lt_of_cell? _ _ c_u_0
  clear z_v
  have hB2 := below_two hB1 hs2
  clear hB1 hs2
  go_wp2_with fail
  have hR' := hR.below (hB2.alloc hB2.size (.cells #[.int .i64 x0, .int .i64 x1, .int .i64 x2, .int .i64 x3] 23))
  refine (HW.out _).mono ?_
  rintro e w3 ⟨rfl, hb3⟩
  clear hR'
  have hs3 : Below w2.heap.size w2 w3 := Below.trans (by repeat (first | exact Below.refl _ _ | refine Below.alloc ?_ (by simp <;> omega) _)) (hb3.mono (by simp <;> omega))
  clear c_u_0
  clear c_u_1
  clear c_u_2
  clear c_u_3
  have c_x_0 : w3.cell? ⟨w2.heap.size, 0, none⟩ = some (.int .i64 x0) := (hb3.cell (by simp <;> omega)).trans (by go_simp)
  have c_x_1 : w3.cell? ⟨w2.heap.size, 1, none⟩ = some (.int .i64 x1) := (hb3.cell (by simp <;> omega)).trans (by go_simp)
  have c_x_2 : w3.cell? ⟨w2.heap.size, 2, none⟩ = some (.int .i64 x2) := (hb3.cell (by simp <;> omega)).trans (by go_simp)
  have c_x_3 : w3.cell? ⟨w2.heap.size, 3, none⟩ = some (.int .i64 x3) := (hb3.cell (by simp <;> omega)).trans (by go_simp)
  have z_x := World.block_lt_of_cell? _ _ c_x_0
  clear z_u
  have hB3 := below_two hB2 hs3
  clear hB2 hs3 hb3
  go_wp2_with fail
  have hR' := hR.below (hB3.alloc hB3.size (.cells #[.int .i64 x0, .int .i64 x1, .int .i64 x2, .int .i64 x3] 23))
  refine (HT.out _ hR').mono ?_
  rintro e w4 ⟨rfl, hb4⟩
  clear hR'
  have hs4 : Below w3.heap.size w3 w4 := Below.trans (by repeat (first | exact Below.refl _ _ | refine Below.alloc ?_ (by simp <;> omega) _)) (hb4.mono (by simp <;> omega))
  replace c_x_0 := cell_later hs4 c_x_0
  replace c_x_1 := cell_later hs4 c_x_1
  replace c_x_2 := cell_later hs4 c_x_2
  replace c_x_3 := cell_later hs4 c_x_3
  have c_y_0 : w4.cell? ⟨w3.heap.size, 0, none⟩ = some (.int .i64 x0) := (hb4.cell (by simp <;> omega)).trans (by go_simp)
  have c_y_1 : w4.cell? ⟨w3.heap.size, 1, none⟩ = some (.int .i64 x1) := (hb4.cell (by simp <;> omega)).trans (by go_simp)
  have c_y_2 : w4.cell? ⟨w3.heap.size, 2, none⟩ = some (.int .i64 x2) := (hb4.cell (by simp <;> omega)).trans (by go_simp)
  have c_y_3 : w4.cell? ⟨w3.heap.size, 3, none⟩ = some (.int .i64 x3) := (hb4.cell (by simp <;> omega)).trans (by go_simp)
  clear z_x
  have z_x := World.block_lt_of_cell? _ _ c_x_0
  have z_y := World.block_lt_of_cell? _ _ c_y_0
  have hB4 := below_two hB3 hs4
  clear hB3 hs4 hb4
  go_wp2_with fail
  have hR' := hR.below hB4
  refine (HT.out _ hR').mono ?_
  rintro e w5 ⟨rfl, hb5⟩
  clear hR'
  have hs5 := hb5
  replace c_x_0 := cell_later hs5 c_x_0
  replace c_x_1 := cell_later hs5 c_x_1
  replace c_x_2 := cell_later hs5 c_x_2
  replace c_x_3 := cell_later hs5 c_x_3
  replace c_y_0 := cell_later hs5 c_y_0
  replace c_y_1 := cell_later hs5 c_y_1
  replace c_y_2 := cell_later hs5 c_y_2
  replace c_y_3 := cell_later hs5 c_y_3
  clear z_x
  have z_x := World.block_lt_of_cell? _ _ c_x_0
  clear z_y
  have z_y := World.block_lt_of_cell? _ _ c_y_0
  have hB5 := below_two hB4 hs5
  clear hB4 hs5
  go_wp2_with fail
  have hR' := hR.below hB5
  refine (HR.out _ hR').mono ?_
  rintro e w6 ⟨rfl, hb6⟩
  clear hR'
  have hs6 := hb6
  replace c_x_0 := cell_later hs6 c_x_0
  replace c_x_1 := cell_later hs6 c_x_1
  replace c_x_2 := cell_later hs6 c_x_2
  replace c_x_3 := cell_later hs6 c_x_3
  replace c_y_0 := cell_later hs6 c_y_0
  replace c_y_1 := cell_later hs6 c_y_1
  replace c_y_2 := cell_later hs6 c_y_2
  replace c_y_3 := cell_later hs6 c_y_3
  clear z_x
  have z_x := World.block_lt_of_cell? _ _ c_x_0
  clear z_y
  have z_y := World.block_lt_of_cell? _ _ c_y_0
  have hB6 := below_two hB5 hs6
  clear hB5 hs6
  go_wp2_with fail
  have hR' := hR.below (hB6.alloc hB6.size (.cells #[.int .i64 x0, .int .i64 x1, .int .i64 x2, .int .i64 x3] 23))
  rw [HF.out]
  refine (HZ.out _ hR').mono ?_
  rintro e w7 ⟨rfl, hb7⟩
  clear hR'
  have hs7 : Below w6.heap.size w6 w7 := Below.trans (by repeat (first | exact Below.refl _ _ | refine Below.alloc ?_ (by simp <;> omega) _)) (hb7.mono (by simp <;> omega))
  replace c_x_0 := cell_later hs7 c_x_0
  replace c_x_1 := cell_later hs7 c_x_1
  replace c_x_2 := cell_later hs7 c_x_2
  replace c_x_3 := cell_later hs7 c_x_3
  replace c_y_0 := cell_later hs7 c_y_0
  replace c_y_1 := cell_later hs7 c_y_1
  replace c_y_2 := cell_later hs7 c_y_2
  replace c_y_3 := cell_later hs7 c_y_3
  have c_r_0 : w7.cell? ⟨w6.heap.size, 0, none⟩ = some (.int .i64 x0) := (hb7.cell (by simp <;> omega)).trans (by go_simp)
  have c_r_1 : w7.cell? ⟨w6.heap.size, 1, none⟩ = some (.int .i64 x1) := (hb7.cell (by simp <;> omega)).trans (by go_simp)
  have c_r_2 : w7.cell? ⟨w6.heap.size, 2, none⟩ = some (.int .i64 x2) := (hb7.cell (by simp <;> omega)).trans (by go_simp)
  have c_r_3 : w7.cell? ⟨w6.heap.size, 3, none⟩ = some (.int .i64 x3) := (hb7.cell (by simp <;> omega)).trans (by go_simp)
  have z_r := World.block_lt_of_cell? _ _ c_r_0
  clear z_x
  have z_x := World.block_lt_of_cell? _ _ c_x_0
  clear z_y
  have z_y := World.block_lt_of_cell? _ _ c_y_0
  have hB7 := below_two hB6 hs7
  clear hB6 hs7 hb7
  go_wp2_with fail
  have hR' := hR.below (hB7.alloc hB7.size (.cells #[.int .i64 z0, .int .i64 z1, .int .i64 z2, .int .i64 z3] 23))
  refine (HB.out _ hR').mono ?_
  rintro e w8 ⟨rfl, hb8⟩
  clear hR'
  have hs8 : Below w7.heap.size w7 w8 := Below.trans (by repeat (first | exact Below.refl _ _ | refine Below.alloc ?_ (by simp <;> omega) _)) (hb8.mono (by simp <;> omega))
  replace c_x_0 := cell_later hs8 c_x_0
  replace c_x_1 := cell_later hs8 c_x_1
  replace c_x_2 := cell_later hs8 c_x_2
  replace c_x_3 := cell_later hs8 c_x_3
  replace c_y_0 := cell_later hs8 c_y_0
  replace c_y_1 := cell_later hs8 c_y_1
  replace c_y_2 := cell_later hs8 c_y_2
  replace c_y_3 := cell_later hs8 c_y_3
  replace c_r_0 := cell_later hs8 c_r_0
  replace c_r_1 := cell_later hs8 c_r_1
  replace c_r_2 := cell_later hs8 c_r_2
  replace c_r_3 := cell_later hs8 c_r_3
  have c_z_0 : w8.cell? ⟨w7.heap.size, 0, none⟩ = some (.int .i64 z0) := (hb8.cell (by simp <;> omega)).trans (by go_simp)
  have c_z_1 : w8.cell? ⟨w7.heap.size, 1, none⟩ = some (.int .i64 z1) := (hb8.cell (by simp <;> omega)).trans (by go_simp)
  have c_z_2 : w8.cell? ⟨w7.heap.size, 2, none⟩ = some (.int .i64 z2) := (hb8.cell (by simp <;> omega)).trans (by go_simp)
  have c_z_3 : w8.cell? ⟨w7.heap.size, 3, none⟩ = some (.int .i64 z3) := (hb8.cell (by simp <;> omega)).trans (by go_simp)
  clear z_r
  have z_r := World.block_lt_of_cell? _ _ c_r_0
  clear z_x
  have z_x := World.block_lt_of_cell? _ _ c_x_0
  clear z_y
  have z_y := World.block_lt_of_cell? _ _ c_y_0
  have z_z := World.block_lt_of_cell? _ _ c_z_0
  have hB8 := below_two hB7 hs8
  clear hB7 hs8 hb8
  go_wp2_with fail
  have hR' := hR.below hB8
  refine (HO.out _).mono ?_
  rintro e w9 ⟨rfl, hb9⟩
  clear hR'
  have hs9 := hb9
  clear c_x_0
  clear c_x_1
  clear c_x_2
  clear c_x_3
  clear c_y_0
  clear c_y_1
  clear c_y_2
  clear c_y_3
  clear c_r_0
  clear c_r_1
  clear c_r_2
  clear c_r_3
  clear c_z_0
  clear c_z_1
  clear c_z_2
  clear c_z_3
  clear z_r
  clear z_x
  clear z_y
  clear z_z
  have hB9 := below_two hB8 hs9
  clear hB8 hs9
  go_wp2
  go_ret
  exact ⟨rfl, hB9⟩

set_option maxRecDepth 100000 in
set_option maxHeartbeats 4000000 in
theorem valueText_sn (b d n e b' d' n' e' : Int) (s : ByteArray) (w : World) (hR : Vars w) (x0 x1 x2 x3 : Int) (HV : Hid (∀ w, Calls Tryz.prog 14 #[vl b d n e] w fun ed w' => ed = .returned (vl x0 x1 x2 x3) ∧ Below w.heap.size w w')) (HW : Hid (∀ w, Calls Tryz.prog 14 #[vl b' d' n' e'] w fun ed w' => ed = .returned (vl x0 x1 x2 x3) ∧ Below w.heap.size w w')) (T : List UInt8) (HT : Hid (∀ w, Vars w → Calls Tryz.prog 17 #[vl x0 x1 x2 x3] w fun ed w' => ed = .returned (.tuple #[.string ⟨T.toArray⟩, .int .i64 0]) ∧ Below w.heap.size w w')) (HR : Hid (∀ w, Vars w → Calls Tryz.prog 12 #[.string ⟨T.toArray⟩] w fun ed w' => ed = .returned (.tuple #[vl x0 x1 x2 x3, .int .i64 0]) ∧ Below w.heap.size w w')) (F : ByteArray) (HF : Hid (s.extract 0 (min (s.size : Int) 30).toNat = F)) (HZ : Hid (∀ w, Vars w → Calls Tryz.prog 12 #[.string F] w fun ed w' => ed = .returned (.tuple #[vl 0 0 0 0, .int .i64 12]) ∧ Below w.heap.size w w')) (G : List UInt8) (HB : Hid (∀ w, Vars w → Calls Tryz.prog 17 #[vl 0 0 0 0] w fun ed w' => ed = .returned (.tuple #[.string ⟨G.toArray⟩, .int .i64 0]) ∧ Below w.heap.size w w')) :
    Calls Tryz.prog 9 #[vl b d n e, vl b' d' n' e', .string s] w fun ed w' => ed = .returned (.bool true) ∧ Below w.heap.size w w' := by
  have hgR := guardR
  have hgV := guardV
  have heR := eql_rt
  have heV := eql_vl
  have hnR := neq_rt
  have hnV := neq_vl
  have hsR := eqR_self
  have hsV := eqV_self
  have hB0 : Below w.heap.size w w := Below.refl _ _
  go_enter Tryz.func9, Tryz.ntmps9
  go_wp2_with fail
  have hR' := hR.below ((hB0.alloc hB0.size (.cells #[.int .i64 b, .int .i64 d, .int .i64 n, .int .i64 e] 23)).alloc (hB0.alloc hB0.size (.cells #[.int .i64 b, .int .i64 d, .int .i64 n, .int .i64 e] 23)).size (.cells #[.int .i64 (b'), .int .i64 (d'), .int .i64 (n'), .int .i64 (e')] 23))
  refine (examples_any _ hR').mono ?_
  rintro e w1 ⟨rfl, hb1⟩
  clear hR'
  have hs1 : Below w.heap.size w w1 := Below.trans (by repeat (first | exact Below.refl _ _ | refine Below.alloc ?_ (by simp <;> omega) _)) (hb1.mono (by simp <;> omega))
  have c_v_0 : w1.cell? ⟨w.heap.size, 0, none⟩ = some (.int .i64 b) := (hb1.cell (by simp <;> omega)).trans (by go_simp)
  have c_v_1 : w1.cell? ⟨w.heap.size, 1, none⟩ = some (.int .i64 d) := (hb1.cell (by simp <;> omega)).trans (by go_simp)
  have c_v_2 : w1.cell? ⟨w.heap.size, 2, none⟩ = some (.int .i64 n) := (hb1.cell (by simp <;> omega)).trans (by go_simp)
  have c_v_3 : w1.cell? ⟨w.heap.size, 3, none⟩ = some (.int .i64 e) := (hb1.cell (by simp <;> omega)).trans (by go_simp)
  have c_u_0 : w1.cell? ⟨w.heap.size + 1, 0, none⟩ = some (.int .i64 (b')) := (hb1.cell (by simp <;> omega)).trans (by go_simp)
  have c_u_1 : w1.cell? ⟨w.heap.size + 1, 1, none⟩ = some (.int .i64 (d')) := (hb1.cell (by simp <;> omega)).trans (by go_simp)
  have c_u_2 : w1.cell? ⟨w.heap.size + 1, 2, none⟩ = some (.int .i64 (n')) := (hb1.cell (by simp <;> omega)).trans (by go_simp)
  have c_u_3 : w1.cell? ⟨w.heap.size + 1, 3, none⟩ = some (.int .i64 (e')) := (hb1.cell (by simp <;> omega)).trans (by go_simp)
  have z_u := World.block_lt_of_cell? _ _ c_u_0
  have z_v := World.block_lt_of_cell? _ _ c_v_0
  have hB1 := below_two hB0 hs1
  clear hB0 hs1 hb1
  go_wp2_with fail
  have hR' := hR.below hB1
  refine (HV.out _).mono ?_
  rintro e w2 ⟨rfl, hb2⟩
  clear hR'
  have hs2 := hb2
  clear c_v_0
  clear c_v_1
  clear c_v_2
  clear c_v_3
  replace c_u_0 := cell_later hs2 c_u_0
  replace c_u_1 := cell_later hs2 c_u_1
  replace c_u_2 := cell_later hs2 c_u_2
  replace c_u_3 := cell_later hs2 c_u_3
  clear z_u
  have z_u := World.block_lt_of_cell? _ _ c_u_0
  clear z_v
  have hB2 := below_two hB1 hs2
  clear hB1 hs2
  go_wp2_with fail
  have hR' := hR.below (hB2.alloc hB2.size (.cells #[.int .i64 x0, .int .i64 x1, .int .i64 x2, .int .i64 x3] 23))
  refine (HW.out _).mono ?_
  rintro e w3 ⟨rfl, hb3⟩
  clear hR'
  have hs3 : Below w2.heap.size w2 w3 := Below.trans (by repeat (first | exact Below.refl _ _ | refine Below.alloc ?_ (by simp <;> omega) _)) (hb3.mono (by simp <;> omega))
  clear c_u_0
  clear c_u_1
  clear c_u_2
  clear c_u_3
  have c_x_0 : w3.cell? ⟨w2.heap.size, 0, none⟩ = some (.int .i64 x0) := (hb3.cell (by simp <;> omega)).trans (by go_simp)
  have c_x_1 : w3.cell? ⟨w2.heap.size, 1, none⟩ = some (.int .i64 x1) := (hb3.cell (by simp <;> omega)).trans (by go_simp)
  have c_x_2 : w3.cell? ⟨w2.heap.size, 2, none⟩ = some (.int .i64 x2) := (hb3.cell (by simp <;> omega)).trans (by go_simp)
  have c_x_3 : w3.cell? ⟨w2.heap.size, 3, none⟩ = some (.int .i64 x3) := (hb3.cell (by simp <;> omega)).trans (by go_simp)
  have z_x := World.block_lt_of_cell? _ _ c_x_0
  clear z_u
  have hB3 := below_two hB2 hs3
  clear hB2 hs3 hb3
  go_wp2_with fail
  have hR' := hR.below (hB3.alloc hB3.size (.cells #[.int .i64 x0, .int .i64 x1, .int .i64 x2, .int .i64 x3] 23))
  refine (HT.out _ hR').mono ?_
  rintro e w4 ⟨rfl, hb4⟩
  clear hR'
  have hs4 : Below w3.heap.size w3 w4 := Below.trans (by repeat (first | exact Below.refl _ _ | refine Below.alloc ?_ (by simp <;> omega) _)) (hb4.mono (by simp <;> omega))
  replace c_x_0 := cell_later hs4 c_x_0
  replace c_x_1 := cell_later hs4 c_x_1
  replace c_x_2 := cell_later hs4 c_x_2
  replace c_x_3 := cell_later hs4 c_x_3
  have c_y_0 : w4.cell? ⟨w3.heap.size, 0, none⟩ = some (.int .i64 x0) := (hb4.cell (by simp <;> omega)).trans (by go_simp)
  have c_y_1 : w4.cell? ⟨w3.heap.size, 1, none⟩ = some (.int .i64 x1) := (hb4.cell (by simp <;> omega)).trans (by go_simp)
  have c_y_2 : w4.cell? ⟨w3.heap.size, 2, none⟩ = some (.int .i64 x2) := (hb4.cell (by simp <;> omega)).trans (by go_simp)
  have c_y_3 : w4.cell? ⟨w3.heap.size, 3, none⟩ = some (.int .i64 x3) := (hb4.cell (by simp <;> omega)).trans (by go_simp)
  clear z_x
  have z_x := World.block_lt_of_cell? _ _ c_x_0
  have z_y := World.block_lt_of_cell? _ _ c_y_0
  have hB4 := below_two hB3 hs4
  clear hB3 hs4 hb4
  go_wp2_with fail
  have hR' := hR.below hB4
  refine (HT.out _ hR').mono ?_
  rintro e w5 ⟨rfl, hb5⟩
  clear hR'
  have hs5 := hb5
  replace c_x_0 := cell_later hs5 c_x_0
  replace c_x_1 := cell_later hs5 c_x_1
  replace c_x_2 := cell_later hs5 c_x_2
  replace c_x_3 := cell_later hs5 c_x_3
  replace c_y_0 := cell_later hs5 c_y_0
  replace c_y_1 := cell_later hs5 c_y_1
  replace c_y_2 := cell_later hs5 c_y_2
  replace c_y_3 := cell_later hs5 c_y_3
  clear z_x
  have z_x := World.block_lt_of_cell? _ _ c_x_0
  clear z_y
  have z_y := World.block_lt_of_cell? _ _ c_y_0
  have hB5 := below_two hB4 hs5
  clear hB4 hs5
  go_wp2_with fail
  have hR' := hR.below hB5
  refine (HR.out _ hR').mono ?_
  rintro e w6 ⟨rfl, hb6⟩
  clear hR'
  have hs6 := hb6
  replace c_x_0 := cell_later hs6 c_x_0
  replace c_x_1 := cell_later hs6 c_x_1
  replace c_x_2 := cell_later hs6 c_x_2
  replace c_x_3 := cell_later hs6 c_x_3
  replace c_y_0 := cell_later hs6 c_y_0
  replace c_y_1 := cell_later hs6 c_y_1
  replace c_y_2 := cell_later hs6 c_y_2
  replace c_y_3 := cell_later hs6 c_y_3
  clear z_x
  have z_x := World.block_lt_of_cell? _ _ c_x_0
  clear z_y
  have z_y := World.block_lt_of_cell? _ _ c_y_0
  have hB6 := below_two hB5 hs6
  clear hB5 hs6
  go_wp2_with fail
  have hR' := hR.below (hB6.alloc hB6.size (.cells #[.int .i64 x0, .int .i64 x1, .int .i64 x2, .int .i64 x3] 23))
  rw [HF.out]
  refine (HZ.out _ hR').mono ?_
  rintro e w7 ⟨rfl, hb7⟩
  clear hR'
  have hs7 : Below w6.heap.size w6 w7 := Below.trans (by repeat (first | exact Below.refl _ _ | refine Below.alloc ?_ (by simp <;> omega) _)) (hb7.mono (by simp <;> omega))
  replace c_x_0 := cell_later hs7 c_x_0
  replace c_x_1 := cell_later hs7 c_x_1
  replace c_x_2 := cell_later hs7 c_x_2
  replace c_x_3 := cell_later hs7 c_x_3
  replace c_y_0 := cell_later hs7 c_y_0
  replace c_y_1 := cell_later hs7 c_y_1
  replace c_y_2 := cell_later hs7 c_y_2
  replace c_y_3 := cell_later hs7 c_y_3
  have c_r_0 : w7.cell? ⟨w6.heap.size, 0, none⟩ = some (.int .i64 x0) := (hb7.cell (by simp <;> omega)).trans (by go_simp)
  have c_r_1 : w7.cell? ⟨w6.heap.size, 1, none⟩ = some (.int .i64 x1) := (hb7.cell (by simp <;> omega)).trans (by go_simp)
  have c_r_2 : w7.cell? ⟨w6.heap.size, 2, none⟩ = some (.int .i64 x2) := (hb7.cell (by simp <;> omega)).trans (by go_simp)
  have c_r_3 : w7.cell? ⟨w6.heap.size, 3, none⟩ = some (.int .i64 x3) := (hb7.cell (by simp <;> omega)).trans (by go_simp)
  have z_r := World.block_lt_of_cell? _ _ c_r_0
  clear z_x
  have z_x := World.block_lt_of_cell? _ _ c_x_0
  clear z_y
  have z_y := World.block_lt_of_cell? _ _ c_y_0
  have hB7 := below_two hB6 hs7
  clear hB6 hs7 hb7
  go_wp2_with fail
  have hR' := hR.below (hB7.alloc hB7.size (.cells #[.int .i64 0, .int .i64 0, .int .i64 0, .int .i64 0] 23))
  refine (HB.out _ hR').mono ?_
  rintro e w8 ⟨rfl, hb8⟩
  clear hR'
  have hs8 : Below w7.heap.size w7 w8 := Below.trans (by repeat (first | exact Below.refl _ _ | refine Below.alloc ?_ (by simp <;> omega) _)) (hb8.mono (by simp <;> omega))
  replace c_x_0 := cell_later hs8 c_x_0
  replace c_x_1 := cell_later hs8 c_x_1
  replace c_x_2 := cell_later hs8 c_x_2
  replace c_x_3 := cell_later hs8 c_x_3
  replace c_y_0 := cell_later hs8 c_y_0
  replace c_y_1 := cell_later hs8 c_y_1
  replace c_y_2 := cell_later hs8 c_y_2
  replace c_y_3 := cell_later hs8 c_y_3
  replace c_r_0 := cell_later hs8 c_r_0
  replace c_r_1 := cell_later hs8 c_r_1
  replace c_r_2 := cell_later hs8 c_r_2
  replace c_r_3 := cell_later hs8 c_r_3
  have c_z_0 : w8.cell? ⟨w7.heap.size, 0, none⟩ = some (.int .i64 0) := (hb8.cell (by simp <;> omega)).trans (by go_simp)
  have c_z_1 : w8.cell? ⟨w7.heap.size, 1, none⟩ = some (.int .i64 0) := (hb8.cell (by simp <;> omega)).trans (by go_simp)
  have c_z_2 : w8.cell? ⟨w7.heap.size, 2, none⟩ = some (.int .i64 0) := (hb8.cell (by simp <;> omega)).trans (by go_simp)
  have c_z_3 : w8.cell? ⟨w7.heap.size, 3, none⟩ = some (.int .i64 0) := (hb8.cell (by simp <;> omega)).trans (by go_simp)
  clear z_r
  have z_r := World.block_lt_of_cell? _ _ c_r_0
  clear z_x
  have z_x := World.block_lt_of_cell? _ _ c_x_0
  clear z_y
  have z_y := World.block_lt_of_cell? _ _ c_y_0
  have z_z := World.block_lt_of_cell? _ _ c_z_0
  have hB8 := below_two hB7 hs8
  clear hB7 hs8 hb8
  go_wp2
  go_ret
  exact ⟨rfl, hB8⟩

set_option maxRecDepth 100000 in
set_option maxHeartbeats 4000000 in
theorem valueText_dy (b d n e b' d' n' e' : Int) (s : ByteArray) (w : World) (hR : Vars w) (x0 x1 x2 x3 : Int) (HV : Hid (∀ w, Calls Tryz.prog 14 #[vl b d n e] w fun ed w' => ed = .returned (vl x0 x1 x2 x3) ∧ Below w.heap.size w w')) (y0 y1 y2 y3 : Int) (HW : Hid (∀ w, Calls Tryz.prog 14 #[vl b' d' n' e'] w fun ed w' => ed = .returned (vl y0 y1 y2 y3) ∧ Below w.heap.size w w')) (T : List UInt8) (HT : Hid (∀ w, Vars w → Calls Tryz.prog 17 #[vl x0 x1 x2 x3] w fun ed w' => ed = .returned (.tuple #[.string ⟨T.toArray⟩, .int .i64 0]) ∧ Below w.heap.size w w')) (U : List UInt8) (hTU : (T == U) = false) (hxy : eqV x0 x1 x2 x3 y0 y1 y2 y3 = false) (HU : Hid (∀ w, Vars w → Calls Tryz.prog 17 #[vl y0 y1 y2 y3] w fun ed w' => ed = .returned (.tuple #[.string ⟨U.toArray⟩, .int .i64 0]) ∧ Below w.heap.size w w')) (HR : Hid (∀ w, Vars w → Calls Tryz.prog 12 #[.string ⟨T.toArray⟩] w fun ed w' => ed = .returned (.tuple #[vl x0 x1 x2 x3, .int .i64 0]) ∧ Below w.heap.size w w')) (F : ByteArray) (HF : Hid (s.extract 0 (min (s.size : Int) 30).toNat = F)) (z0 z1 z2 z3 : Int) (HZ : Hid (∀ w, Vars w → Calls Tryz.prog 12 #[.string F] w fun ed w' => ed = .returned (.tuple #[vl z0 z1 z2 z3, .int .i64 0]) ∧ Below w.heap.size w w')) (HB : Hid (∀ w, Vars w → Calls Tryz.prog 17 #[vl z0 z1 z2 z3] w fun ed w' => ed = .returned (.tuple #[.string ⟨F.data.toList.toArray⟩, .int .i64 0]) ∧ Below w.heap.size w w')) (HO : Hid (∀ w, Calls Tryz.prog 19 #[vl z0 z1 z2 z3] w fun ed w' => ed = .returned (.bool true) ∧ Below w.heap.size w w')) :
    Calls Tryz.prog 9 #[vl b d n e, vl b' d' n' e', .string s] w fun ed w' => ed = .returned (.bool true) ∧ Below w.heap.size w w' := by
  have hgR := guardR
  have hgV := guardV
  have heR := eql_rt
  have heV := eql_vl
  have hnR := neq_rt
  have hnV := neq_vl
  have hsR := eqR_self
  have hsV := eqV_self
  have hB0 : Below w.heap.size w w := Below.refl _ _
  go_enter Tryz.func9, Tryz.ntmps9
  go_wp2_with fail
  have hR' := hR.below ((hB0.alloc hB0.size (.cells #[.int .i64 b, .int .i64 d, .int .i64 n, .int .i64 e] 23)).alloc (hB0.alloc hB0.size (.cells #[.int .i64 b, .int .i64 d, .int .i64 n, .int .i64 e] 23)).size (.cells #[.int .i64 (b'), .int .i64 (d'), .int .i64 (n'), .int .i64 (e')] 23))
  refine (examples_any _ hR').mono ?_
  rintro e w1 ⟨rfl, hb1⟩
  clear hR'
  have hs1 : Below w.heap.size w w1 := Below.trans (by repeat (first | exact Below.refl _ _ | refine Below.alloc ?_ (by simp <;> omega) _)) (hb1.mono (by simp <;> omega))
  have c_v_0 : w1.cell? ⟨w.heap.size, 0, none⟩ = some (.int .i64 b) := (hb1.cell (by simp <;> omega)).trans (by go_simp)
  have c_v_1 : w1.cell? ⟨w.heap.size, 1, none⟩ = some (.int .i64 d) := (hb1.cell (by simp <;> omega)).trans (by go_simp)
  have c_v_2 : w1.cell? ⟨w.heap.size, 2, none⟩ = some (.int .i64 n) := (hb1.cell (by simp <;> omega)).trans (by go_simp)
  have c_v_3 : w1.cell? ⟨w.heap.size, 3, none⟩ = some (.int .i64 e) := (hb1.cell (by simp <;> omega)).trans (by go_simp)
  have c_u_0 : w1.cell? ⟨w.heap.size + 1, 0, none⟩ = some (.int .i64 (b')) := (hb1.cell (by simp <;> omega)).trans (by go_simp)
  have c_u_1 : w1.cell? ⟨w.heap.size + 1, 1, none⟩ = some (.int .i64 (d')) := (hb1.cell (by simp <;> omega)).trans (by go_simp)
  have c_u_2 : w1.cell? ⟨w.heap.size + 1, 2, none⟩ = some (.int .i64 (n')) := (hb1.cell (by simp <;> omega)).trans (by go_simp)
  have c_u_3 : w1.cell? ⟨w.heap.size + 1, 3, none⟩ = some (.int .i64 (e')) := (hb1.cell (by simp <;> omega)).trans (by go_simp)
  have z_u := World.block_lt_of_cell? _ _ c_u_0
  have z_v := World.block_lt_of_cell? _ _ c_v_0
  have hB1 := below_two hB0 hs1
  clear hB0 hs1 hb1
  go_wp2_with fail
  have hR' := hR.below hB1
  refine (HV.out _).mono ?_
  rintro e w2 ⟨rfl, hb2⟩
  clear hR'
  have hs2 := hb2
  clear c_v_0
  clear c_v_1
  clear c_v_2
  clear c_v_3
  replace c_u_0 := cell_later hs2 c_u_0
  replace c_u_1 := cell_later hs2 c_u_1
  replace c_u_2 := cell_later hs2 c_u_2
  replace c_u_3 := cell_later hs2 c_u_3
  clear z_u
  have z_u := World.block_lt_of_cell? _ _ c_u_0
  clear z_v
  have hB2 := below_two hB1 hs2
  clear hB1 hs2
  go_wp2_with fail
  have hR' := hR.below (hB2.alloc hB2.size (.cells #[.int .i64 x0, .int .i64 x1, .int .i64 x2, .int .i64 x3] 23))
  refine (HW.out _).mono ?_
  rintro e w3 ⟨rfl, hb3⟩
  clear hR'
  have hs3 : Below w2.heap.size w2 w3 := Below.trans (by repeat (first | exact Below.refl _ _ | refine Below.alloc ?_ (by simp <;> omega) _)) (hb3.mono (by simp <;> omega))
  clear c_u_0
  clear c_u_1
  clear c_u_2
  clear c_u_3
  have c_x_0 : w3.cell? ⟨w2.heap.size, 0, none⟩ = some (.int .i64 x0) := (hb3.cell (by simp <;> omega)).trans (by go_simp)
  have c_x_1 : w3.cell? ⟨w2.heap.size, 1, none⟩ = some (.int .i64 x1) := (hb3.cell (by simp <;> omega)).trans (by go_simp)
  have c_x_2 : w3.cell? ⟨w2.heap.size, 2, none⟩ = some (.int .i64 x2) := (hb3.cell (by simp <;> omega)).trans (by go_simp)
  have c_x_3 : w3.cell? ⟨w2.heap.size, 3, none⟩ = some (.int .i64 x3) := (hb3.cell (by simp <;> omega)).trans (by go_simp)
  have z_x := World.block_lt_of_cell? _ _ c_x_0
  clear z_u
  have hB3 := below_two hB2 hs3
  clear hB2 hs3 hb3
  go_wp2_with fail
  have hR' := hR.below (hB3.alloc hB3.size (.cells #[.int .i64 y0, .int .i64 y1, .int .i64 y2, .int .i64 y3] 23))
  refine (HT.out _ hR').mono ?_
  rintro e w4 ⟨rfl, hb4⟩
  clear hR'
  have hs4 : Below w3.heap.size w3 w4 := Below.trans (by repeat (first | exact Below.refl _ _ | refine Below.alloc ?_ (by simp <;> omega) _)) (hb4.mono (by simp <;> omega))
  replace c_x_0 := cell_later hs4 c_x_0
  replace c_x_1 := cell_later hs4 c_x_1
  replace c_x_2 := cell_later hs4 c_x_2
  replace c_x_3 := cell_later hs4 c_x_3
  have c_y_0 : w4.cell? ⟨w3.heap.size, 0, none⟩ = some (.int .i64 y0) := (hb4.cell (by simp <;> omega)).trans (by go_simp)
  have c_y_1 : w4.cell? ⟨w3.heap.size, 1, none⟩ = some (.int .i64 y1) := (hb4.cell (by simp <;> omega)).trans (by go_simp)
  have c_y_2 : w4.cell? ⟨w3.heap.size, 2, none⟩ = some (.int .i64 y2) := (hb4.cell (by simp <;> omega)).trans (by go_simp)
  have c_y_3 : w4.cell? ⟨w3.heap.size, 3, none⟩ = some (.int .i64 y3) := (hb4.cell (by simp <;> omega)).trans (by go_simp)
  clear z_x
  have z_x := World.block_lt_of_cell? _ _ c_x_0
  have z_y := World.block_lt_of_cell? _ _ c_y_0
  have hB4 := below_two hB3 hs4
  clear hB3 hs4 hb4
  go_wp2_with fail
  have hR' := hR.below hB4
  refine (HU.out _ hR').mono ?_
  rintro e w5 ⟨rfl, hb5⟩
  clear hR'
  have hs5 := hb5
  replace c_x_0 := cell_later hs5 c_x_0
  replace c_x_1 := cell_later hs5 c_x_1
  replace c_x_2 := cell_later hs5 c_x_2
  replace c_x_3 := cell_later hs5 c_x_3
  replace c_y_0 := cell_later hs5 c_y_0
  replace c_y_1 := cell_later hs5 c_y_1
  replace c_y_2 := cell_later hs5 c_y_2
  replace c_y_3 := cell_later hs5 c_y_3
  clear z_x
  have z_x := World.block_lt_of_cell? _ _ c_x_0
  clear z_y
  have z_y := World.block_lt_of_cell? _ _ c_y_0
  have hB5 := below_two hB4 hs5
  clear hB4 hs5
  go_wp2_with fail
  have hR' := hR.below hB5
  refine (HR.out _ hR').mono ?_
  rintro e w6 ⟨rfl, hb6⟩
  clear hR'
  have hs6 := hb6
  replace c_x_0 := cell_later hs6 c_x_0
  replace c_x_1 := cell_later hs6 c_x_1
  replace c_x_2 := cell_later hs6 c_x_2
  replace c_x_3 := cell_later hs6 c_x_3
  replace c_y_0 := cell_later hs6 c_y_0
  replace c_y_1 := cell_later hs6 c_y_1
  replace c_y_2 := cell_later hs6 c_y_2
  replace c_y_3 := cell_later hs6 c_y_3
  clear z_x
  have z_x := World.block_lt_of_cell? _ _ c_x_0
  clear z_y
  have z_y := World.block_lt_of_cell? _ _ c_y_0
  have hB6 := below_two hB5 hs6
  clear hB5 hs6
  go_wp2_with fail
  have hR' := hR.below (hB6.alloc hB6.size (.cells #[.int .i64 x0, .int .i64 x1, .int .i64 x2, .int .i64 x3] 23))
  rw [HF.out]
  refine (HZ.out _ hR').mono ?_
  rintro e w7 ⟨rfl, hb7⟩
  clear hR'
  have hs7 : Below w6.heap.size w6 w7 := Below.trans (by repeat (first | exact Below.refl _ _ | refine Below.alloc ?_ (by simp <;> omega) _)) (hb7.mono (by simp <;> omega))
  replace c_x_0 := cell_later hs7 c_x_0
  replace c_x_1 := cell_later hs7 c_x_1
  replace c_x_2 := cell_later hs7 c_x_2
  replace c_x_3 := cell_later hs7 c_x_3
  replace c_y_0 := cell_later hs7 c_y_0
  replace c_y_1 := cell_later hs7 c_y_1
  replace c_y_2 := cell_later hs7 c_y_2
  replace c_y_3 := cell_later hs7 c_y_3
  have c_r_0 : w7.cell? ⟨w6.heap.size, 0, none⟩ = some (.int .i64 x0) := (hb7.cell (by simp <;> omega)).trans (by go_simp)
  have c_r_1 : w7.cell? ⟨w6.heap.size, 1, none⟩ = some (.int .i64 x1) := (hb7.cell (by simp <;> omega)).trans (by go_simp)
  have c_r_2 : w7.cell? ⟨w6.heap.size, 2, none⟩ = some (.int .i64 x2) := (hb7.cell (by simp <;> omega)).trans (by go_simp)
  have c_r_3 : w7.cell? ⟨w6.heap.size, 3, none⟩ = some (.int .i64 x3) := (hb7.cell (by simp <;> omega)).trans (by go_simp)
  have z_r := World.block_lt_of_cell? _ _ c_r_0
  clear z_x
  have z_x := World.block_lt_of_cell? _ _ c_x_0
  clear z_y
  have z_y := World.block_lt_of_cell? _ _ c_y_0
  have hB7 := below_two hB6 hs7
  clear hB6 hs7 hb7
  go_wp2_with fail
  have hR' := hR.below (hB7.alloc hB7.size (.cells #[.int .i64 z0, .int .i64 z1, .int .i64 z2, .int .i64 z3] 23))
  refine (HB.out _ hR').mono ?_
  rintro e w8 ⟨rfl, hb8⟩
  clear hR'
  have hs8 : Below w7.heap.size w7 w8 := Below.trans (by repeat (first | exact Below.refl _ _ | refine Below.alloc ?_ (by simp <;> omega) _)) (hb8.mono (by simp <;> omega))
  replace c_x_0 := cell_later hs8 c_x_0
  replace c_x_1 := cell_later hs8 c_x_1
  replace c_x_2 := cell_later hs8 c_x_2
  replace c_x_3 := cell_later hs8 c_x_3
  replace c_y_0 := cell_later hs8 c_y_0
  replace c_y_1 := cell_later hs8 c_y_1
  replace c_y_2 := cell_later hs8 c_y_2
  replace c_y_3 := cell_later hs8 c_y_3
  replace c_r_0 := cell_later hs8 c_r_0
  replace c_r_1 := cell_later hs8 c_r_1
  replace c_r_2 := cell_later hs8 c_r_2
  replace c_r_3 := cell_later hs8 c_r_3
  have c_z_0 : w8.cell? ⟨w7.heap.size, 0, none⟩ = some (.int .i64 z0) := (hb8.cell (by simp <;> omega)).trans (by go_simp)
  have c_z_1 : w8.cell? ⟨w7.heap.size, 1, none⟩ = some (.int .i64 z1) := (hb8.cell (by simp <;> omega)).trans (by go_simp)
  have c_z_2 : w8.cell? ⟨w7.heap.size, 2, none⟩ = some (.int .i64 z2) := (hb8.cell (by simp <;> omega)).trans (by go_simp)
  have c_z_3 : w8.cell? ⟨w7.heap.size, 3, none⟩ = some (.int .i64 z3) := (hb8.cell (by simp <;> omega)).trans (by go_simp)
  clear z_r
  have z_r := World.block_lt_of_cell? _ _ c_r_0
  clear z_x
  have z_x := World.block_lt_of_cell? _ _ c_x_0
  clear z_y
  have z_y := World.block_lt_of_cell? _ _ c_y_0
  have z_z := World.block_lt_of_cell? _ _ c_z_0
  have hB8 := below_two hB7 hs8
  clear hB7 hs8 hb8
  go_wp2_with fail
  have hR' := hR.below hB8
  refine (HO.out _).mono ?_
  rintro e w9 ⟨rfl, hb9⟩
  clear hR'
  have hs9 := hb9
  clear c_x_0
  clear c_x_1
  clear c_x_2
  clear c_x_3
  clear c_y_0
  clear c_y_1
  clear c_y_2
  clear c_y_3
  clear c_r_0
  clear c_r_1
  clear c_r_2
  clear c_r_3
  clear c_z_0
  clear c_z_1
  clear c_z_2
  clear c_z_3
  clear z_r
  clear z_x
  clear z_y
  clear z_z
  have hB9 := below_two hB8 hs9
  clear hB8 hs9
  go_wp2
  go_ret
  exact ⟨rfl, hB9⟩

set_option maxRecDepth 100000 in
set_option maxHeartbeats 4000000 in
theorem valueText_dn (b d n e b' d' n' e' : Int) (s : ByteArray) (w : World) (hR : Vars w) (x0 x1 x2 x3 : Int) (HV : Hid (∀ w, Calls Tryz.prog 14 #[vl b d n e] w fun ed w' => ed = .returned (vl x0 x1 x2 x3) ∧ Below w.heap.size w w')) (y0 y1 y2 y3 : Int) (HW : Hid (∀ w, Calls Tryz.prog 14 #[vl b' d' n' e'] w fun ed w' => ed = .returned (vl y0 y1 y2 y3) ∧ Below w.heap.size w w')) (T : List UInt8) (HT : Hid (∀ w, Vars w → Calls Tryz.prog 17 #[vl x0 x1 x2 x3] w fun ed w' => ed = .returned (.tuple #[.string ⟨T.toArray⟩, .int .i64 0]) ∧ Below w.heap.size w w')) (U : List UInt8) (hTU : (T == U) = false) (hxy : eqV x0 x1 x2 x3 y0 y1 y2 y3 = false) (HU : Hid (∀ w, Vars w → Calls Tryz.prog 17 #[vl y0 y1 y2 y3] w fun ed w' => ed = .returned (.tuple #[.string ⟨U.toArray⟩, .int .i64 0]) ∧ Below w.heap.size w w')) (HR : Hid (∀ w, Vars w → Calls Tryz.prog 12 #[.string ⟨T.toArray⟩] w fun ed w' => ed = .returned (.tuple #[vl x0 x1 x2 x3, .int .i64 0]) ∧ Below w.heap.size w w')) (F : ByteArray) (HF : Hid (s.extract 0 (min (s.size : Int) 30).toNat = F)) (HZ : Hid (∀ w, Vars w → Calls Tryz.prog 12 #[.string F] w fun ed w' => ed = .returned (.tuple #[vl 0 0 0 0, .int .i64 12]) ∧ Below w.heap.size w w')) (G : List UInt8) (HB : Hid (∀ w, Vars w → Calls Tryz.prog 17 #[vl 0 0 0 0] w fun ed w' => ed = .returned (.tuple #[.string ⟨G.toArray⟩, .int .i64 0]) ∧ Below w.heap.size w w')) :
    Calls Tryz.prog 9 #[vl b d n e, vl b' d' n' e', .string s] w fun ed w' => ed = .returned (.bool true) ∧ Below w.heap.size w w' := by
  have hgR := guardR
  have hgV := guardV
  have heR := eql_rt
  have heV := eql_vl
  have hnR := neq_rt
  have hnV := neq_vl
  have hsR := eqR_self
  have hsV := eqV_self
  have hB0 : Below w.heap.size w w := Below.refl _ _
  go_enter Tryz.func9, Tryz.ntmps9
  go_wp2_with fail
  have hR' := hR.below ((hB0.alloc hB0.size (.cells #[.int .i64 b, .int .i64 d, .int .i64 n, .int .i64 e] 23)).alloc (hB0.alloc hB0.size (.cells #[.int .i64 b, .int .i64 d, .int .i64 n, .int .i64 e] 23)).size (.cells #[.int .i64 (b'), .int .i64 (d'), .int .i64 (n'), .int .i64 (e')] 23))
  refine (examples_any _ hR').mono ?_
  rintro e w1 ⟨rfl, hb1⟩
  clear hR'
  have hs1 : Below w.heap.size w w1 := Below.trans (by repeat (first | exact Below.refl _ _ | refine Below.alloc ?_ (by simp <;> omega) _)) (hb1.mono (by simp <;> omega))
  have c_v_0 : w1.cell? ⟨w.heap.size, 0, none⟩ = some (.int .i64 b) := (hb1.cell (by simp <;> omega)).trans (by go_simp)
  have c_v_1 : w1.cell? ⟨w.heap.size, 1, none⟩ = some (.int .i64 d) := (hb1.cell (by simp <;> omega)).trans (by go_simp)
  have c_v_2 : w1.cell? ⟨w.heap.size, 2, none⟩ = some (.int .i64 n) := (hb1.cell (by simp <;> omega)).trans (by go_simp)
  have c_v_3 : w1.cell? ⟨w.heap.size, 3, none⟩ = some (.int .i64 e) := (hb1.cell (by simp <;> omega)).trans (by go_simp)
  have c_u_0 : w1.cell? ⟨w.heap.size + 1, 0, none⟩ = some (.int .i64 (b')) := (hb1.cell (by simp <;> omega)).trans (by go_simp)
  have c_u_1 : w1.cell? ⟨w.heap.size + 1, 1, none⟩ = some (.int .i64 (d')) := (hb1.cell (by simp <;> omega)).trans (by go_simp)
  have c_u_2 : w1.cell? ⟨w.heap.size + 1, 2, none⟩ = some (.int .i64 (n')) := (hb1.cell (by simp <;> omega)).trans (by go_simp)
  have c_u_3 : w1.cell? ⟨w.heap.size + 1, 3, none⟩ = some (.int .i64 (e')) := (hb1.cell (by simp <;> omega)).trans (by go_simp)
  have z_u := World.block_lt_of_cell? _ _ c_u_0
  have z_v := World.block_lt_of_cell? _ _ c_v_0
  have hB1 := below_two hB0 hs1
  clear hB0 hs1 hb1
  go_wp2_with fail
  have hR' := hR.below hB1
  refine (HV.out _).mono ?_
  rintro e w2 ⟨rfl, hb2⟩
  clear hR'
  have hs2 := hb2
  clear c_v_0
  clear c_v_1
  clear c_v_2
  clear c_v_3
  replace c_u_0 := cell_later hs2 c_u_0
  replace c_u_1 := cell_later hs2 c_u_1
  replace c_u_2 := cell_later hs2 c_u_2
  replace c_u_3 := cell_later hs2 c_u_3
  clear z_u
  have z_u := World.block_lt_of_cell? _ _ c_u_0
  clear z_v
  have hB2 := below_two hB1 hs2
  clear hB1 hs2
  go_wp2_with fail
  have hR' := hR.below (hB2.alloc hB2.size (.cells #[.int .i64 x0, .int .i64 x1, .int .i64 x2, .int .i64 x3] 23))
  refine (HW.out _).mono ?_
  rintro e w3 ⟨rfl, hb3⟩
  clear hR'
  have hs3 : Below w2.heap.size w2 w3 := Below.trans (by repeat (first | exact Below.refl _ _ | refine Below.alloc ?_ (by simp <;> omega) _)) (hb3.mono (by simp <;> omega))
  clear c_u_0
  clear c_u_1
  clear c_u_2
  clear c_u_3
  have c_x_0 : w3.cell? ⟨w2.heap.size, 0, none⟩ = some (.int .i64 x0) := (hb3.cell (by simp <;> omega)).trans (by go_simp)
  have c_x_1 : w3.cell? ⟨w2.heap.size, 1, none⟩ = some (.int .i64 x1) := (hb3.cell (by simp <;> omega)).trans (by go_simp)
  have c_x_2 : w3.cell? ⟨w2.heap.size, 2, none⟩ = some (.int .i64 x2) := (hb3.cell (by simp <;> omega)).trans (by go_simp)
  have c_x_3 : w3.cell? ⟨w2.heap.size, 3, none⟩ = some (.int .i64 x3) := (hb3.cell (by simp <;> omega)).trans (by go_simp)
  have z_x := World.block_lt_of_cell? _ _ c_x_0
  clear z_u
  have hB3 := below_two hB2 hs3
  clear hB2 hs3 hb3
  go_wp2_with fail
  have hR' := hR.below (hB3.alloc hB3.size (.cells #[.int .i64 y0, .int .i64 y1, .int .i64 y2, .int .i64 y3] 23))
  refine (HT.out _ hR').mono ?_
  rintro e w4 ⟨rfl, hb4⟩
  clear hR'
  have hs4 : Below w3.heap.size w3 w4 := Below.trans (by repeat (first | exact Below.refl _ _ | refine Below.alloc ?_ (by simp <;> omega) _)) (hb4.mono (by simp <;> omega))
  replace c_x_0 := cell_later hs4 c_x_0
  replace c_x_1 := cell_later hs4 c_x_1
  replace c_x_2 := cell_later hs4 c_x_2
  replace c_x_3 := cell_later hs4 c_x_3
  have c_y_0 : w4.cell? ⟨w3.heap.size, 0, none⟩ = some (.int .i64 y0) := (hb4.cell (by simp <;> omega)).trans (by go_simp)
  have c_y_1 : w4.cell? ⟨w3.heap.size, 1, none⟩ = some (.int .i64 y1) := (hb4.cell (by simp <;> omega)).trans (by go_simp)
  have c_y_2 : w4.cell? ⟨w3.heap.size, 2, none⟩ = some (.int .i64 y2) := (hb4.cell (by simp <;> omega)).trans (by go_simp)
  have c_y_3 : w4.cell? ⟨w3.heap.size, 3, none⟩ = some (.int .i64 y3) := (hb4.cell (by simp <;> omega)).trans (by go_simp)
  clear z_x
  have z_x := World.block_lt_of_cell? _ _ c_x_0
  have z_y := World.block_lt_of_cell? _ _ c_y_0
  have hB4 := below_two hB3 hs4
  clear hB3 hs4 hb4
  go_wp2_with fail
  have hR' := hR.below hB4
  refine (HU.out _ hR').mono ?_
  rintro e w5 ⟨rfl, hb5⟩
  clear hR'
  have hs5 := hb5
  replace c_x_0 := cell_later hs5 c_x_0
  replace c_x_1 := cell_later hs5 c_x_1
  replace c_x_2 := cell_later hs5 c_x_2
  replace c_x_3 := cell_later hs5 c_x_3
  replace c_y_0 := cell_later hs5 c_y_0
  replace c_y_1 := cell_later hs5 c_y_1
  replace c_y_2 := cell_later hs5 c_y_2
  replace c_y_3 := cell_later hs5 c_y_3
  clear z_x
  have z_x := World.block_lt_of_cell? _ _ c_x_0
  clear z_y
  have z_y := World.block_lt_of_cell? _ _ c_y_0
  have hB5 := below_two hB4 hs5
  clear hB4 hs5
  go_wp2_with fail
  have hR' := hR.below hB5
  refine (HR.out _ hR').mono ?_
  rintro e w6 ⟨rfl, hb6⟩
  clear hR'
  have hs6 := hb6
  replace c_x_0 := cell_later hs6 c_x_0
  replace c_x_1 := cell_later hs6 c_x_1
  replace c_x_2 := cell_later hs6 c_x_2
  replace c_x_3 := cell_later hs6 c_x_3
  replace c_y_0 := cell_later hs6 c_y_0
  replace c_y_1 := cell_later hs6 c_y_1
  replace c_y_2 := cell_later hs6 c_y_2
  replace c_y_3 := cell_later hs6 c_y_3
  clear z_x
  have z_x := World.block_lt_of_cell? _ _ c_x_0
  clear z_y
  have z_y := World.block_lt_of_cell? _ _ c_y_0
  have hB6 := below_two hB5 hs6
  clear hB5 hs6
  go_wp2_with fail
  have hR' := hR.below (hB6.alloc hB6.size (.cells #[.int .i64 x0, .int .i64 x1, .int .i64 x2, .int .i64 x3] 23))
  rw [HF.out]
  refine (HZ.out _ hR').mono ?_
  rintro e w7 ⟨rfl, hb7⟩
  clear hR'
  have hs7 : Below w6.heap.size w6 w7 := Below.trans (by repeat (first | exact Below.refl _ _ | refine Below.alloc ?_ (by simp <;> omega) _)) (hb7.mono (by simp <;> omega))
  replace c_x_0 := cell_later hs7 c_x_0
  replace c_x_1 := cell_later hs7 c_x_1
  replace c_x_2 := cell_later hs7 c_x_2
  replace c_x_3 := cell_later hs7 c_x_3
  replace c_y_0 := cell_later hs7 c_y_0
  replace c_y_1 := cell_later hs7 c_y_1
  replace c_y_2 := cell_later hs7 c_y_2
  replace c_y_3 := cell_later hs7 c_y_3
  have c_r_0 : w7.cell? ⟨w6.heap.size, 0, none⟩ = some (.int .i64 x0) := (hb7.cell (by simp <;> omega)).trans (by go_simp)
  have c_r_1 : w7.cell? ⟨w6.heap.size, 1, none⟩ = some (.int .i64 x1) := (hb7.cell (by simp <;> omega)).trans (by go_simp)
  have c_r_2 : w7.cell? ⟨w6.heap.size, 2, none⟩ = some (.int .i64 x2) := (hb7.cell (by simp <;> omega)).trans (by go_simp)
  have c_r_3 : w7.cell? ⟨w6.heap.size, 3, none⟩ = some (.int .i64 x3) := (hb7.cell (by simp <;> omega)).trans (by go_simp)
  have z_r := World.block_lt_of_cell? _ _ c_r_0
  clear z_x
  have z_x := World.block_lt_of_cell? _ _ c_x_0
  clear z_y
  have z_y := World.block_lt_of_cell? _ _ c_y_0
  have hB7 := below_two hB6 hs7
  clear hB6 hs7 hb7
  go_wp2_with fail
  have hR' := hR.below (hB7.alloc hB7.size (.cells #[.int .i64 0, .int .i64 0, .int .i64 0, .int .i64 0] 23))
  refine (HB.out _ hR').mono ?_
  rintro e w8 ⟨rfl, hb8⟩
  clear hR'
  have hs8 : Below w7.heap.size w7 w8 := Below.trans (by repeat (first | exact Below.refl _ _ | refine Below.alloc ?_ (by simp <;> omega) _)) (hb8.mono (by simp <;> omega))
  replace c_x_0 := cell_later hs8 c_x_0
  replace c_x_1 := cell_later hs8 c_x_1
  replace c_x_2 := cell_later hs8 c_x_2
  replace c_x_3 := cell_later hs8 c_x_3
  replace c_y_0 := cell_later hs8 c_y_0
  replace c_y_1 := cell_later hs8 c_y_1
  replace c_y_2 := cell_later hs8 c_y_2
  replace c_y_3 := cell_later hs8 c_y_3
  replace c_r_0 := cell_later hs8 c_r_0
  replace c_r_1 := cell_later hs8 c_r_1
  replace c_r_2 := cell_later hs8 c_r_2
  replace c_r_3 := cell_later hs8 c_r_3
  have c_z_0 : w8.cell? ⟨w7.heap.size, 0, none⟩ = some (.int .i64 0) := (hb8.cell (by simp <;> omega)).trans (by go_simp)
  have c_z_1 : w8.cell? ⟨w7.heap.size, 1, none⟩ = some (.int .i64 0) := (hb8.cell (by simp <;> omega)).trans (by go_simp)
  have c_z_2 : w8.cell? ⟨w7.heap.size, 2, none⟩ = some (.int .i64 0) := (hb8.cell (by simp <;> omega)).trans (by go_simp)
  have c_z_3 : w8.cell? ⟨w7.heap.size, 3, none⟩ = some (.int .i64 0) := (hb8.cell (by simp <;> omega)).trans (by go_simp)
  clear z_r
  have z_r := World.block_lt_of_cell? _ _ c_r_0
  clear z_x
  have z_x := World.block_lt_of_cell? _ _ c_x_0
  clear z_y
  have z_y := World.block_lt_of_cell? _ _ c_y_0
  have z_z := World.block_lt_of_cell? _ _ c_z_0
  have hB8 := below_two hB7 hs8
  clear hB7 hs8 hb8
  go_wp2
  go_ret
  exact ⟨rfl, hB8⟩

theorem few_size (s : ByteArray) : (s.extract 0 (min (s.size : Int) 30).toNat).size ≤ 30 := by
  rw [ByteArray.size_extract]; omega
theorem text_call {b d n e : Int} {T : List UInt8} (h : Val.ok b d n e = true) (hT : Val.txt b d n e = T) (w : World) (hR : Vars w) : Calls Tryz.prog 17 #[vl b d n e] w fun ed w' => ed = .returned (.tuple #[.string ⟨T.toArray⟩, .int .i64 0]) ∧ Below w.heap.size w w' := by
  have := vtext_any b d n e w hR
  rw [show Val.txtE b d n e = T by unfold Val.txtE; rw [h]; exact hT, show Val.lenE b d n e = 0 by unfold Val.lenE; rw [h]; rfl] at this
  exact this
theorem read_call {F : ByteArray} (hF : F.size ≤ 1000) {o : Option (Int × Int × Int × Int)} (h : Val.rdv F.data.toList = o) (w : World) (hR : Vars w) : Calls Tryz.prog 12 #[.string F] w fun ed w' => ed = .returned (rdV o) ∧ Below w.heap.size w w' := by
  have := vread_any F w hR hF
  rw [h] at this
  exact this
theorem rightT {x y z u : Int} (h : Val.ok x y z u = true) (w : World) : Calls Tryz.prog 19 #[vl x y z u] w fun ed w' => ed = .returned (.bool true) ∧ Below w.heap.size w w' := by
  have := vright_any x y z u w
  rw [h] at this
  exact this
theorem txt_len {b d n e : Int} (h : Val.ok b d n e = true) : (Val.txt b d n e).length ≤ 200 := by
  obtain ⟨b0, b6, d0, d2, hk⟩ := (Val.ok_iff _ _ _ _).1 h
  have hb := Val.bt_bounds b0 b6
  have h1 := itoa_short (Val.bt b) (by unfold Rat.I64; omega)
  have h2 := itoa_short n (by unfold Rat.I64; omega)
  have h3 := itoa_short e (by unfold Rat.I64; omega)
  unfold Val.txt Val.frB Val.tuB
  split <;> simp <;> omega
theorem valueText_calls (b d n e b' d' n' e' : Int) (s : ByteArray) (ib : Rat.I64 b) (id' : Rat.I64 d) (in' : Rat.I64 n) (ie : Rat.I64 e) (jb : Rat.I64 b') (jd : Rat.I64 d') (jn : Rat.I64 n') (je : Rat.I64 e') (_hs : s.size ≤ maxLen) (w : World) (hR : Vars w) :
    Calls Tryz.prog 9 #[vl b d n e, vl b' d' n' e', .string s] w fun ed w' => ed = .returned (.bool true) ∧ Below w.heap.size w w' := by
  obtain ⟨N, E, hok, hv⟩ := value_fix b d n e ib id' in' ie
  obtain ⟨N', E', hok', hv'⟩ := value_fix b' d' n' e' jb jd jn je
  generalize pickS b 7 = B at *
  generalize pickS d 3 = D at *
  generalize pickS b' 7 = B' at *
  generalize pickS d' 3 = D' at *
  have hF := few_size s
  generalize hFe : s.extract 0 (min (s.size : Int) 30).toNat = F at *
  have HT := Lib.hid (fun w (hR : Vars w) => text_call hok rfl w hR)
  have HR := Lib.hid (fun w (hR : Vars w) => read_call (F := ⟨(Val.txt B D N E).toArray⟩) (by rw [sz]; have := txt_len hok; omega) (o := some (B, D, N, E)) (Val.rd_txt hok) w hR)
  have o0 : Val.ok 0 0 0 0 = true := by decide
  have HB := Lib.hid (fun w (hR : Vars w) => text_call o0 rfl w hR)
  by_cases hxy : B = B' ∧ D = D' ∧ N = N' ∧ E = E'
  · obtain ⟨rfl, rfl, rfl, rfl⟩ := hxy
    cases hz : Val.rdv F.data.toList with
    | none => exact valueText_sn b d n e b' d' n' e' s w hR B D N E (Lib.hid hv) (Lib.hid hv') _ HT HR F (Lib.hid hFe) (Lib.hid fun w hR => read_call (by omega) hz w hR) _ HB
    | some z =>
      obtain ⟨z0, z1, z2, z3⟩ := z
      obtain ⟨hoz, htz⟩ := Val.rd_some hz
      exact valueText_sy b d n e b' d' n' e' s w hR B D N E (Lib.hid hv) (Lib.hid hv') _ HT HR F (Lib.hid hFe) z0 z1 z2 z3 (Lib.hid fun w hR => read_call (by omega) hz w hR) (Lib.hid fun w hR => text_call hoz htz w hR) (Lib.hid (rightT hoz))
  · have hTU : (Val.txt B D N E == Val.txt B' D' N' E') = false := by
      cases h : (Val.txt B D N E == Val.txt B' D' N' E') with
      | false => rfl
      | true => exact absurd (Val.txt_inj hok hok' (by simpa using h)) hxy
    have hne : eqV B D N E B' D' N' E' = false := by
      cases h : eqV B D N E B' D' N' E' with
      | false => rfl
      | true => exact absurd ((eqV_iff _ _ _ _ _ _ _ _).1 h) hxy
    have HU := Lib.hid (fun w (hR : Vars w) => text_call hok' rfl w hR)
    cases hz : Val.rdv F.data.toList with
    | none => exact valueText_dn b d n e b' d' n' e' s w hR B D N E (Lib.hid hv) B' D' N' E' (Lib.hid hv') _ HT _ hTU hne HU HR F (Lib.hid hFe) (Lib.hid fun w hR => read_call (by omega) hz w hR) _ HB
    | some z =>
      obtain ⟨z0, z1, z2, z3⟩ := z
      obtain ⟨hoz, htz⟩ := Val.rd_some hz
      exact valueText_dy b d n e b' d' n' e' s w hR B D N E (Lib.hid hv) B' D' N' E' (Lib.hid hv') _ HT _ hTU hne HU HR F (Lib.hid hFe) z0 z1 z2 z3 (Lib.hid fun w hR => read_call (by omega) hz w hR) (Lib.hid fun w hR => text_call hoz htz w hR) (Lib.hid (rightT hoz))
end Go.Proofs.YtejiifkenanodaaGreatDoor
