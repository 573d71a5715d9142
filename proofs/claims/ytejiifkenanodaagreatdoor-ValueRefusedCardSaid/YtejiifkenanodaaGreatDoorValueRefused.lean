/-
  ValueRefused answers true.
-/
import Derived.Test.YtejiifkenanodaaGreatDoorValL
namespace Go.Proofs.YtejiifkenanodaaGreatDoor
open Go.RowKit

set_option maxRecDepth 100000 in
set_option maxHeartbeats 4000000 in
theorem valueRefused_yes (b d c e l k : Int) (w : World) (hR : Vars w) (il : Rat.I64 l) (p n m q : Int) (HP : Hid (pickS l 1000000 = p)) (hn : IntKind.i64.wrap (1 + p) = n) (hm : IntKind.i64.wrap (-n) = m) (hq : IntKind.i64.wrap (64 + n) = q) (H1 : Hid (∀ w, Vars w → Calls Tryz.prog 30 #[rt m 1] w fun ed w' => ed = .returned (.tuple #[.slice none 0 0, .int .i64 41]) ∧ Below w.heap.size w w')) (H2 : Hid (∀ w, Vars w → Calls Tryz.prog 30 #[rt q 1] w fun ed w' => ed = .returned (.tuple #[.slice none 0 0, .int .i64 41]) ∧ Below w.heap.size w w')) (H5 : Hid (∀ w, Vars w → Calls Tryz.prog 30 #[rt n m] w fun ed w' => ed = .returned (.tuple #[.slice none 0 0, .int .i64 41]) ∧ Below w.heap.size w w')) (X Y : Int) (T : List UInt8) (HL : Hid (∀ w, Vars w → Calls Tryz.prog 15 #[vl b d c e] w fun ed w' => ed = .returned (rv X Y 0) ∧ Below w.heap.size w w')) (HT : Hid (∀ w, Vars w → Calls Tryz.prog 17 #[vl b d c e] w fun ed w' => ed = .returned (.tuple #[.string ⟨T.toArray⟩, .int .i64 0]) ∧ Below w.heap.size w w')) (HO : Hid (∀ w, Calls Tryz.prog 19 #[vl b d c e] w fun ed w' => ed = .returned (.bool true) ∧ Below w.heap.size w w')) :
    Calls Tryz.prog 10 #[vl b d c e, rt l k] w fun ed w' => ed = .returned (.bool true) ∧ Below w.heap.size w w' := by
  have hgR := guardR
  have hgV := guardV
  have heR := eql_rt
  have heV := eql_vl
  have hnR := neq_rt
  have hnV := neq_vl
  have hsR := eqR_self
  have hsV := eqV_self
  have hB0 : Below w.heap.size w w := Below.refl _ _
  go_enter Tryz.func10, Tryz.ntmps10
  go_wp2_with fail
  have hR' := hR.below ((hB0.alloc hB0.size (.cells #[.int .i64 b, .int .i64 d, .int .i64 c, .int .i64 e] 23)).alloc (hB0.alloc hB0.size (.cells #[.int .i64 b, .int .i64 d, .int .i64 c, .int .i64 e] 23)).size (.cells #[.int .i64 l, .int .i64 k] 25))
  refine (examples_any _ hR').mono ?_
  rintro e w1 ⟨rfl, hb1⟩
  clear hR'
  have hs1 : Below w.heap.size w w1 := Below.trans (by repeat (first | exact Below.refl _ _ | refine Below.alloc ?_ (by simp <;> omega) _)) (hb1.mono (by simp <;> omega))
  have c_v_0 : w1.cell? ⟨w.heap.size, 0, none⟩ = some (.int .i64 b) := (hb1.cell (by simp <;> omega)).trans (by go_simp)
  have c_v_1 : w1.cell? ⟨w.heap.size, 1, none⟩ = some (.int .i64 d) := (hb1.cell (by simp <;> omega)).trans (by go_simp)
  have c_v_2 : w1.cell? ⟨w.heap.size, 2, none⟩ = some (.int .i64 c) := (hb1.cell (by simp <;> omega)).trans (by go_simp)
  have c_v_3 : w1.cell? ⟨w.heap.size, 3, none⟩ = some (.int .i64 e) := (hb1.cell (by simp <;> omega)).trans (by go_simp)
  have c_l_0 : w1.cell? ⟨w.heap.size + 1, 0, none⟩ = some (.int .i64 l) := (hb1.cell (by simp <;> omega)).trans (by go_simp)
  have c_l_1 : w1.cell? ⟨w.heap.size + 1, 1, none⟩ = some (.int .i64 k) := (hb1.cell (by simp <;> omega)).trans (by go_simp)
  have z_l := World.block_lt_of_cell? _ _ c_l_0
  have z_v := World.block_lt_of_cell? _ _ c_v_0
  have hB1 := below_two hB0 hs1
  clear hB0 hs1 hb1
  go_wp2_with fail
  have hR' := hR.below hB1
  refine (HL.out _ hR').mono ?_
  rintro e w2 ⟨rfl, hb2⟩
  clear hR'
  have hs2 := hb2
  replace c_v_0 := cell_later hs2 c_v_0
  replace c_v_1 := cell_later hs2 c_v_1
  replace c_v_2 := cell_later hs2 c_v_2
  replace c_v_3 := cell_later hs2 c_v_3
  replace c_l_0 := cell_later hs2 c_l_0
  replace c_l_1 := cell_later hs2 c_l_1
  clear z_l
  have z_l := World.block_lt_of_cell? _ _ c_l_0
  clear z_v
  have z_v := World.block_lt_of_cell? _ _ c_v_0
  have hB2 := below_two hB1 hs2
  clear hB1 hs2
  go_wp2_with fail
  have hR' := hR.below (hB2.alloc hB2.size (.cells #[.int .i64 X, .int .i64 Y] 25))
  refine (HT.out _ hR').mono ?_
  rintro e w3 ⟨rfl, hb3⟩
  clear hR'
  have hs3 : Below w2.heap.size w2 w3 := Below.trans (by repeat (first | exact Below.refl _ _ | refine Below.alloc ?_ (by simp <;> omega) _)) (hb3.mono (by simp <;> omega))
  replace c_v_0 := cell_later hs3 c_v_0
  replace c_v_1 := cell_later hs3 c_v_1
  replace c_v_2 := cell_later hs3 c_v_2
  replace c_v_3 := cell_later hs3 c_v_3
  replace c_l_0 := cell_later hs3 c_l_0
  replace c_l_1 := cell_later hs3 c_l_1
  have c_a_0 : w3.cell? ⟨w2.heap.size, 0, none⟩ = some (.int .i64 X) := (hb3.cell (by simp <;> omega)).trans (by go_simp)
  have c_a_1 : w3.cell? ⟨w2.heap.size, 1, none⟩ = some (.int .i64 Y) := (hb3.cell (by simp <;> omega)).trans (by go_simp)
  have z_a := World.block_lt_of_cell? _ _ c_a_0
  clear z_l
  have z_l := World.block_lt_of_cell? _ _ c_l_0
  clear z_v
  have z_v := World.block_lt_of_cell? _ _ c_v_0
  have hB3 := below_two hB2 hs3
  clear hB2 hs3 hb3
  go_wp2_with fail
  have hR' := hR.below hB3
  refine (HO.out _).mono ?_
  rintro e w4 ⟨rfl, hb4⟩
  clear hR'
  have hs4 := hb4
  replace c_v_0 := cell_later hs4 c_v_0
  replace c_v_1 := cell_later hs4 c_v_1
  replace c_v_2 := cell_later hs4 c_v_2
  replace c_v_3 := cell_later hs4 c_v_3
  replace c_l_0 := cell_later hs4 c_l_0
  replace c_l_1 := cell_later hs4 c_l_1
  replace c_a_0 := cell_later hs4 c_a_0
  replace c_a_1 := cell_later hs4 c_a_1
  clear z_a
  have z_a := World.block_lt_of_cell? _ _ c_a_0
  clear z_l
  have z_l := World.block_lt_of_cell? _ _ c_l_0
  clear z_v
  have z_v := World.block_lt_of_cell? _ _ c_v_0
  have hB4 := below_two hB3 hs4
  clear hB3 hs4
  go_wp2_with fail
  have hR' := hR.below hB4
  refine (HO.out _).mono ?_
  rintro e w5 ⟨rfl, hb5⟩
  clear hR'
  have hs5 := hb5
  clear c_v_0
  clear c_v_1
  clear c_v_2
  clear c_v_3
  replace c_l_0 := cell_later hs5 c_l_0
  replace c_l_1 := cell_later hs5 c_l_1
  replace c_a_0 := cell_later hs5 c_a_0
  replace c_a_1 := cell_later hs5 c_a_1
  clear z_a
  have z_a := World.block_lt_of_cell? _ _ c_a_0
  clear z_l
  have z_l := World.block_lt_of_cell? _ _ c_l_0
  clear z_v
  have hB5 := below_two hB4 hs5
  clear hB4 hs5
  go_wp2_with fail
  refine (pick_any l 1000000 _ il (by decide) (by decide)).mono ?_
  rintro e wx ⟨rfl, rfl⟩
  rw [HP.out]
  go_wp2_with fail
  have hR' := hR.below hB5
  refine (H1.out _ hR').mono ?_
  rintro e w6 ⟨rfl, hb6⟩
  clear hR'
  have hs6 := hb6
  replace c_l_0 := cell_later hs6 c_l_0
  replace c_l_1 := cell_later hs6 c_l_1
  replace c_a_0 := cell_later hs6 c_a_0
  replace c_a_1 := cell_later hs6 c_a_1
  clear z_a
  have z_a := World.block_lt_of_cell? _ _ c_a_0
  clear z_l
  have z_l := World.block_lt_of_cell? _ _ c_l_0
  have hB6 := below_two hB5 hs6
  clear hB5 hs6
  go_wp2_with fail
  have hR' := hR.below hB6
  refine (H2.out _ hR').mono ?_
  rintro e w7 ⟨rfl, hb7⟩
  clear hR'
  have hs7 := hb7
  replace c_l_0 := cell_later hs7 c_l_0
  replace c_l_1 := cell_later hs7 c_l_1
  replace c_a_0 := cell_later hs7 c_a_0
  replace c_a_1 := cell_later hs7 c_a_1
  clear z_a
  have z_a := World.block_lt_of_cell? _ _ c_a_0
  clear z_l
  have z_l := World.block_lt_of_cell? _ _ c_l_0
  have hB7 := below_two hB6 hs7
  clear hB6 hs7
  go_wp2_with fail
  have hR' := hR.below hB7
  refine (split_no_kind (x := 0) (y := 1) (by decide +kernel) _ hR').mono ?_
  rintro e w8 ⟨rfl, hb8⟩
  clear hR'
  have hs8 := hb8
  replace c_l_0 := cell_later hs8 c_l_0
  replace c_l_1 := cell_later hs8 c_l_1
  replace c_a_0 := cell_later hs8 c_a_0
  replace c_a_1 := cell_later hs8 c_a_1
  clear z_a
  have z_a := World.block_lt_of_cell? _ _ c_a_0
  clear z_l
  have z_l := World.block_lt_of_cell? _ _ c_l_0
  have hB8 := below_two hB7 hs8
  clear hB7 hs8
  go_wp2_with fail
  have hR' := hR.below hB8
  refine (split_no_kind (x := 1) (y := 704) (by decide +kernel) _ hR').mono ?_
  rintro e w9 ⟨rfl, hb9⟩
  clear hR'
  have hs9 := hb9
  replace c_l_0 := cell_later hs9 c_l_0
  replace c_l_1 := cell_later hs9 c_l_1
  replace c_a_0 := cell_later hs9 c_a_0
  replace c_a_1 := cell_later hs9 c_a_1
  clear z_a
  have z_a := World.block_lt_of_cell? _ _ c_a_0
  clear z_l
  have z_l := World.block_lt_of_cell? _ _ c_l_0
  have hB9 := below_two hB8 hs9
  clear hB8 hs9
  go_wp2_with fail
  have hR' := hR.below hB9
  refine (H5.out _ hR').mono ?_
  rintro e w10 ⟨rfl, hb10⟩
  clear hR'
  have hs10 := hb10
  replace c_l_0 := cell_later hs10 c_l_0
  replace c_l_1 := cell_later hs10 c_l_1
  replace c_a_0 := cell_later hs10 c_a_0
  replace c_a_1 := cell_later hs10 c_a_1
  clear z_a
  have z_a := World.block_lt_of_cell? _ _ c_a_0
  clear z_l
  have z_l := World.block_lt_of_cell? _ _ c_l_0
  have hB10 := below_two hB9 hs10
  clear hB9 hs10
  go_wp2
  go_ret
  exact ⟨rfl, hB10⟩

set_option maxRecDepth 100000 in
set_option maxHeartbeats 4000000 in
theorem valueRefused_no (b d c e l k : Int) (w : World) (hR : Vars w) (il : Rat.I64 l) (p n m q : Int) (HP : Hid (pickS l 1000000 = p)) (hn : IntKind.i64.wrap (1 + p) = n) (hm : IntKind.i64.wrap (-n) = m) (hq : IntKind.i64.wrap (64 + n) = q) (H1 : Hid (∀ w, Vars w → Calls Tryz.prog 30 #[rt m 1] w fun ed w' => ed = .returned (.tuple #[.slice none 0 0, .int .i64 41]) ∧ Below w.heap.size w w')) (H2 : Hid (∀ w, Vars w → Calls Tryz.prog 30 #[rt q 1] w fun ed w' => ed = .returned (.tuple #[.slice none 0 0, .int .i64 41]) ∧ Below w.heap.size w w')) (H5 : Hid (∀ w, Vars w → Calls Tryz.prog 30 #[rt n m] w fun ed w' => ed = .returned (.tuple #[.slice none 0 0, .int .i64 41]) ∧ Below w.heap.size w w')) (HL : Hid (∀ w, Vars w → Calls Tryz.prog 15 #[vl b d c e] w fun ed w' => ed = .returned (rv 0 0 40) ∧ Below w.heap.size w w')) (HT : Hid (∀ w, Vars w → Calls Tryz.prog 17 #[vl b d c e] w fun ed w' => ed = .returned (.tuple #[.string ⟨#[]⟩, .int .i64 40]) ∧ Below w.heap.size w w')) (HO : Hid (∀ w, Calls Tryz.prog 19 #[vl b d c e] w fun ed w' => ed = .returned (.bool false) ∧ Below w.heap.size w w')) :
    Calls Tryz.prog 10 #[vl b d c e, rt l k] w fun ed w' => ed = .returned (.bool true) ∧ Below w.heap.size w w' := by
  have hgR := guardR
  have hgV := guardV
  have heR := eql_rt
  have heV := eql_vl
  have hnR := neq_rt
  have hnV := neq_vl
  have hsR := eqR_self
  have hsV := eqV_self
  have hB0 : Below w.heap.size w w := Below.refl _ _
  go_enter Tryz.func10, Tryz.ntmps10
  go_wp2_with fail
  have hR' := hR.below ((hB0.alloc hB0.size (.cells #[.int .i64 b, .int .i64 d, .int .i64 c, .int .i64 e] 23)).alloc (hB0.alloc hB0.size (.cells #[.int .i64 b, .int .i64 d, .int .i64 c, .int .i64 e] 23)).size (.cells #[.int .i64 l, .int .i64 k] 25))
  refine (examples_any _ hR').mono ?_
  rintro e w1 ⟨rfl, hb1⟩
  clear hR'
  have hs1 : Below w.heap.size w w1 := Below.trans (by repeat (first | exact Below.refl _ _ | refine Below.alloc ?_ (by simp <;> omega) _)) (hb1.mono (by simp <;> omega))
  have c_v_0 : w1.cell? ⟨w.heap.size, 0, none⟩ = some (.int .i64 b) := (hb1.cell (by simp <;> omega)).trans (by go_simp)
  have c_v_1 : w1.cell? ⟨w.heap.size, 1, none⟩ = some (.int .i64 d) := (hb1.cell (by simp <;> omega)).trans (by go_simp)
  have c_v_2 : w1.cell? ⟨w.heap.size, 2, none⟩ = some (.int .i64 c) := (hb1.cell (by simp <;> omega)).trans (by go_simp)
  have c_v_3 : w1.cell? ⟨w.heap.size, 3, none⟩ = some (.int .i64 e) := (hb1.cell (by simp <;> omega)).trans (by go_simp)
  have c_l_0 : w1.cell? ⟨w.heap.size + 1, 0, none⟩ = some (.int .i64 l) := (hb1.cell (by simp <;> omega)).trans (by go_simp)
  have c_l_1 : w1.cell? ⟨w.heap.size + 1, 1, none⟩ = some (.int .i64 k) := (hb1.cell (by simp <;> omega)).trans (by go_simp)
  have z_l := World.block_lt_of_cell? _ _ c_l_0
  have z_v := World.block_lt_of_cell? _ _ c_v_0
  have hB1 := below_two hB0 hs1
  clear hB0 hs1 hb1
  go_wp2_with fail
  have hR' := hR.below hB1
  refine (HL.out _ hR').mono ?_
  rintro e w2 ⟨rfl, hb2⟩
  clear hR'
  have hs2 := hb2
  replace c_v_0 := cell_later hs2 c_v_0
  replace c_v_1 := cell_later hs2 c_v_1
  replace c_v_2 := cell_later hs2 c_v_2
  replace c_v_3 := cell_later hs2 c_v_3
  replace c_l_0 := cell_later hs2 c_l_0
  replace c_l_1 := cell_later hs2 c_l_1
  clear z_l
  have z_l := World.block_lt_of_cell? _ _ c_l_0
  clear z_v
  have z_v := World.block_lt_of_cell? _ _ c_v_0
  have hB2 := below_two hB1 hs2
  clear hB1 hs2
  go_wp2_with fail
  have hR' := hR.below (hB2.alloc hB2.size (.cells #[.int .i64 0, .int .i64 0] 25))
  refine (HT.out _ hR').mono ?_
  rintro e w3 ⟨rfl, hb3⟩
  clear hR'
  have hs3 : Below w2.heap.size w2 w3 := Below.trans (by repeat (first | exact Below.refl _ _ | refine Below.alloc ?_ (by simp <;> omega) _)) (hb3.mono (by simp <;> omega))
  replace c_v_0 := cell_later hs3 c_v_0
  replace c_v_1 := cell_later hs3 c_v_1
  replace c_v_2 := cell_later hs3 c_v_2
  replace c_v_3 := cell_later hs3 c_v_3
  replace c_l_0 := cell_later hs3 c_l_0
  replace c_l_1 := cell_later hs3 c_l_1
  have c_a_0 : w3.cell? ⟨w2.heap.size, 0, none⟩ = some (.int .i64 0) := (hb3.cell (by simp <;> omega)).trans (by go_simp)
  have c_a_1 : w3.cell? ⟨w2.heap.size, 1, none⟩ = some (.int .i64 0) := (hb3.cell (by simp <;> omega)).trans (by go_simp)
  have z_a := World.block_lt_of_cell? _ _ c_a_0
  clear z_l
  have z_l := World.block_lt_of_cell? _ _ c_l_0
  clear z_v
  have z_v := World.block_lt_of_cell? _ _ c_v_0
  have hB3 := below_two hB2 hs3
  clear hB2 hs3 hb3
  go_wp2_with fail
  have hR' := hR.below hB3
  refine (HO.out _).mono ?_
  rintro e w4 ⟨rfl, hb4⟩
  clear hR'
  have hs4 := hb4
  replace c_v_0 := cell_later hs4 c_v_0
  replace c_v_1 := cell_later hs4 c_v_1
  replace c_v_2 := cell_later hs4 c_v_2
  replace c_v_3 := cell_later hs4 c_v_3
  replace c_l_0 := cell_later hs4 c_l_0
  replace c_l_1 := cell_later hs4 c_l_1
  replace c_a_0 := cell_later hs4 c_a_0
  replace c_a_1 := cell_later hs4 c_a_1
  clear z_a
  have z_a := World.block_lt_of_cell? _ _ c_a_0
  clear z_l
  have z_l := World.block_lt_of_cell? _ _ c_l_0
  clear z_v
  have z_v := World.block_lt_of_cell? _ _ c_v_0
  have hB4 := below_two hB3 hs4
  clear hB3 hs4
  go_wp2_with fail
  have hR' := hR.below hB4
  refine (HO.out _).mono ?_
  rintro e w5 ⟨rfl, hb5⟩
  clear hR'
  have hs5 := hb5
  clear c_v_0
  clear c_v_1
  clear c_v_2
  clear c_v_3
  replace c_l_0 := cell_later hs5 c_l_0
  replace c_l_1 := cell_later hs5 c_l_1
  replace c_a_0 := cell_later hs5 c_a_0
  replace c_a_1 := cell_later hs5 c_a_1
  clear z_a
  have z_a := World.block_lt_of_cell? _ _ c_a_0
  clear z_l
  have z_l := World.block_lt_of_cell? _ _ c_l_0
  clear z_v
  have hB5 := below_two hB4 hs5
  clear hB4 hs5
  go_wp2_with fail
  refine (pick_any l 1000000 _ il (by decide) (by decide)).mono ?_
  rintro e wx ⟨rfl, rfl⟩
  rw [HP.out]
  go_wp2_with fail
  have hR' := hR.below hB5
  refine (H1.out _ hR').mono ?_
  rintro e w6 ⟨rfl, hb6⟩
  clear hR'
  have hs6 := hb6
  replace c_l_0 := cell_later hs6 c_l_0
  replace c_l_1 := cell_later hs6 c_l_1
  replace c_a_0 := cell_later hs6 c_a_0
  replace c_a_1 := cell_later hs6 c_a_1
  clear z_a
  have z_a := World.block_lt_of_cell? _ _ c_a_0
  clear z_l
  have z_l := World.block_lt_of_cell? _ _ c_l_0
  have hB6 := below_two hB5 hs6
  clear hB5 hs6
  go_wp2_with fail
  have hR' := hR.below hB6
  refine (H2.out _ hR').mono ?_
  rintro e w7 ⟨rfl, hb7⟩
  clear hR'
  have hs7 := hb7
  replace c_l_0 := cell_later hs7 c_l_0
  replace c_l_1 := cell_later hs7 c_l_1
  replace c_a_0 := cell_later hs7 c_a_0
  replace c_a_1 := cell_later hs7 c_a_1
  clear z_a
  have z_a := World.block_lt_of_cell? _ _ c_a_0
  clear z_l
  have z_l := World.block_lt_of_cell? _ _ c_l_0
  have hB7 := below_two hB6 hs7
  clear hB6 hs7
  go_wp2_with fail
  have hR' := hR.below hB7
  refine (split_no_kind (x := 0) (y := 1) (by decide +kernel) _ hR').mono ?_
  rintro e w8 ⟨rfl, hb8⟩
  clear hR'
  have hs8 := hb8
  replace c_l_0 := cell_later hs8 c_l_0
  replace c_l_1 := cell_later hs8 c_l_1
  replace c_a_0 := cell_later hs8 c_a_0
  replace c_a_1 := cell_later hs8 c_a_1
  clear z_a
  have z_a := World.block_lt_of_cell? _ _ c_a_0
  clear z_l
  have z_l := World.block_lt_of_cell? _ _ c_l_0
  have hB8 := below_two hB7 hs8
  clear hB7 hs8
  go_wp2_with fail
  have hR' := hR.below hB8
  refine (split_no_kind (x := 1) (y := 704) (by decide +kernel) _ hR').mono ?_
  rintro e w9 ⟨rfl, hb9⟩
  clear hR'
  have hs9 := hb9
  replace c_l_0 := cell_later hs9 c_l_0
  replace c_l_1 := cell_later hs9 c_l_1
  replace c_a_0 := cell_later hs9 c_a_0
  replace c_a_1 := cell_later hs9 c_a_1
  clear z_a
  have z_a := World.block_lt_of_cell? _ _ c_a_0
  clear z_l
  have z_l := World.block_lt_of_cell? _ _ c_l_0
  have hB9 := below_two hB8 hs9
  clear hB8 hs9
  go_wp2_with fail
  have hR' := hR.below hB9
  refine (H5.out _ hR').mono ?_
  rintro e w10 ⟨rfl, hb10⟩
  clear hR'
  have hs10 := hb10
  replace c_l_0 := cell_later hs10 c_l_0
  replace c_l_1 := cell_later hs10 c_l_1
  replace c_a_0 := cell_later hs10 c_a_0
  replace c_a_1 := cell_later hs10 c_a_1
  clear z_a
  have z_a := World.block_lt_of_cell? _ _ c_a_0
  clear z_l
  have z_l := World.block_lt_of_cell? _ _ c_l_0
  have hB10 := below_two hB9 hs10
  clear hB9 hs10
  go_wp2
  go_ret
  exact ⟨rfl, hB10⟩

theorem sp_none {x y : Int} (h : Val.may x y = false) : Val.spK x y = 4 := by unfold Val.spK; rw [h]; rfl
theorem valueRefused_calls (b d c e l k : Int) (_ib : Rat.I64 b) (_id : Rat.I64 d) (_ic : Rat.I64 c) (_ie : Rat.I64 e) (il : Rat.I64 l) (_ik : Rat.I64 k) (w : World) (hR : Vars w) :
    Calls Tryz.prog 10 #[vl b d c e, rt l k] w fun ed w' => ed = .returned (.bool true) ∧ Below w.heap.size w w' := by

  obtain ⟨p0, p1⟩ := pickS_bounds l (n := 1000000) (by decide)
  have hn : IntKind.i64.wrap (1 + pickS l 1000000) = 1 + pickS l 1000000 := IntWalk.i64_in _ (by omega)
  have hm : IntKind.i64.wrap (-(1 + pickS l 1000000)) = -(1 + pickS l 1000000) := IntWalk.i64_in _ (by omega)
  have hq : IntKind.i64.wrap (64 + (1 + pickS l 1000000)) = 64 + (1 + pickS l 1000000) := IntWalk.i64_in _ (by omega)
  have s1 : Val.spK (-(1 + pickS l 1000000)) 1 = 4 := sp_none (by unfold Val.may; rw [show decide (0 < -(1 + pickS l 1000000)) = false from decide_eq_false (by omega)]; simp)
  have s2 : Val.spK (64 + (1 + pickS l 1000000)) 1 = 4 := sp_none (by unfold Val.may; rw [show decide (64 + (1 + pickS l 1000000) ≤ 64 * 1) = false from decide_eq_false (by omega)]; simp)
  have s5 : Val.spK (1 + pickS l 1000000) (-(1 + pickS l 1000000)) = 4 := sp_none (by unfold Val.may; rw [right_d1 (by omega)]; rfl)
  cases ho : Val.ok b d c e
  · refine valueRefused_no b d c e l k w hR il _ _ _ _ (Lib.hid rfl) hn hm hq (Lib.hid (fun w hR => split_no_kind s1 w hR)) (Lib.hid (fun w hR => split_no_kind s2 w hR)) (Lib.hid (fun w hR => split_no_kind s5 w hR)) ?_ ?_ ?_
    · exact Lib.hid (fun w hR => by have := length_any b d c e w hR; unfold Val.lenN Val.lenD Val.lenE at this; rw [ho] at this; exact this)
    · exact Lib.hid (fun w hR => by have := vtext_any b d c e w hR; unfold Val.txtE Val.lenE at this; rw [ho] at this; exact this)
    · exact Lib.hid (fun w => by have := vright_any b d c e w; rw [ho] at this; exact this)
  · refine valueRefused_yes b d c e l k w hR il _ _ _ _ (Lib.hid rfl) hn hm hq (Lib.hid (fun w hR => split_no_kind s1 w hR)) (Lib.hid (fun w hR => split_no_kind s2 w hR)) (Lib.hid (fun w hR => split_no_kind s5 w hR)) (Val.lenN b d c e) (Val.lenD b d c e) (Val.txtE b d c e) ?_ ?_ ?_
    · exact Lib.hid (fun w hR => length_right ho rfl rfl w hR)
    · exact Lib.hid (fun w hR => by have := vtext_any b d c e w hR; rw [show Val.lenE b d c e = 0 by unfold Val.lenE; rw [ho]; rfl] at this; exact this)
    · exact Lib.hid (fun w => by have := vright_any b d c e w; rw [ho] at this; exact this)
end Go.Proofs.YtejiifkenanodaaGreatDoor
