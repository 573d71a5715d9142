/-
  The contract of the statements' own examples().
-/
import Derived.Test.YtejiifkenanodaaGreatDoorValK
namespace Go.Proofs.YtejiifkenanodaaGreatDoor
open Go.RowKit

theorem ex1 (w : World) (hR : Vars w) : Calls Tryz.prog 15 #[vl 3 1 0 0] w fun ed w' => ed = .returned (rv 3 16 0) ∧ Below w.heap.size w w' :=
  length_right (by decide) (by decide +kernel) (by decide +kernel) w hR
theorem ex2 (w : World) (hR : Vars w) : Calls Tryz.prog 27 #[rt 1 12] w fun ed w' => ed = .returned (.tuple #[vl 3 0 3 2, .bool true]) ∧ Below w.heap.size w w' := by
  have h := find_any 1 12 w hR
  rw [show Val.fnd 1 12 = 30 from by decide +kernel] at h
  exact h
theorem ex3 (w : World) (hR : Vars w) : Calls Tryz.prog 27 #[rt 1 13] w fun ed w' => ed = .returned (.tuple #[vl 0 0 0 0, .bool false]) ∧ Below w.heap.size w w' := by
  have h := find_any 1 13 w hR
  rw [show Val.fnd 1 13 = 84 from by decide +kernel] at h
  exact h
/-- Two values in memory. -/
def Two (W : World) (v : Value) : Prop := ∃ g cap, v = .slice (some ⟨g, 0, none⟩) 2 cap ∧ W.cell? ⟨g, 0, none⟩ = some (.int .i64 1) ∧ W.cell? ⟨g, 1, none⟩ = some (.int .i64 0) ∧ W.cell? ⟨g, 2, none⟩ = some (.int .i64 0) ∧ W.cell? ⟨g, 3, none⟩ = some (.int .i64 0) ∧ W.cell? ⟨g, 4, none⟩ = some (.int .i64 3) ∧ W.cell? ⟨g, 5, none⟩ = some (.int .i64 0) ∧ W.cell? ⟨g, 6, none⟩ = some (.int .i64 0) ∧ W.cell? ⟨g, 7, none⟩ = some (.int .i64 0)
theorem ex4 (w : World) (hR : Vars w) : Calls Tryz.prog 30 #[rt 5 8] w fun ed w' => (∃ v, ed = .returned (.tuple #[v, .int .i64 0]) ∧ Two w' v) ∧ Below w.heap.size w w' := by
  refine (split_any 5 8 w hR).mono ?_
  rintro ed w' ⟨⟨v, er, rfl, hs⟩, hb⟩
  have hk : Val.spK 5 8 = 0 := by decide +kernel
  rcases hs with ⟨h, _⟩ | ⟨i, k, hi, h, rfl, hf, _, hr⟩
  · rw [hk] at h; cases h
  · rw [hk] at h
    subst h
    have hu : Val.uI 5 8 0 = 40 := by decide +kernel
    rw [hu] at hf hr
    have h2 : Val.Fills 40 2 := ⟨by decide +kernel, fun j hj => by
      have : ∀ j : Fin 2, 1 ≤ Val.rm 40 j.val := by decide +kernel
      exact this ⟨j, hj⟩⟩
    obtain rfl := hf.unique h2
    obtain ⟨g, cap, rfl, hc⟩ := hr
    have e0 : prt 40 (Val.kN 0) (Val.kE 0) 0 = (1, 0, 0, 0) := by decide +kernel
    have e1 : prt 40 (Val.kN 0) (Val.kE 0) 1 = (3, 0, 0, 0) := by decide +kernel
    have c0 := hc 0 (by decide)
    have c1 := hc 1 (by decide)
    rw [e0] at c0
    rw [e1] at c1
    exact ⟨⟨_, rfl, g, cap, rfl, c0.1, c0.2.1, c0.2.2.1, c0.2.2.2, c1.1, c1.2.1, c1.2.2.1, c1.2.2.2⟩, hb⟩
theorem split_no_kind {x y : Int} (h : Val.spK x y = 4) (w : World) (hR : Vars w) : Calls Tryz.prog 30 #[rt x y] w fun ed w' => ed = .returned (.tuple #[.slice none 0 0, .int .i64 41]) ∧ Below w.heap.size w w' := by
  refine (split_any x y w hR).mono ?_
  rintro ed w' ⟨⟨v, er, rfl, hs⟩, hb⟩
  rcases hs with ⟨_, rfl, rfl⟩ | ⟨i, k, hi, h', _⟩
  · exact ⟨rfl, hb⟩
  · rw [h] at h'; omega
theorem ex5 (w : World) (hR : Vars w) : Calls Tryz.prog 30 #[rt 1 128] w fun ed w' => ed = .returned (.tuple #[.slice none 0 0, .int .i64 41]) ∧ Below w.heap.size w w' := split_no_kind (by decide +kernel) w hR
theorem ex6 (w : World) (hR : Vars w) : Calls Tryz.prog 17 #[vl 3 1 3 2] w fun ed w' => ed = .returned (.tuple #[.string ⟨#[56, 46, 42, 51, 58, 50]⟩, .int .i64 0]) ∧ Below w.heap.size w w' := by
  have h := vtext_any 3 1 3 2 w hR
  rw [show Val.txtE 3 1 3 2 = [56, 46, 42, 51, 58, 50] from by decide +kernel, show Val.lenE 3 1 3 2 = 0 from by decide] at h
  exact h
theorem ex7 (w : World) (hR : Vars w) : Calls Tryz.prog 12 #[.string ⟨#[54, 52, 46, 46]⟩] w fun ed w' => ed = .returned (.tuple #[vl 6 2 0 0, .int .i64 0]) ∧ Below w.heap.size w w' := by
  have h := vread_any ⟨#[54, 52, 46, 46]⟩ w hR (by decide)
  rw [show Val.rdv (ByteArray.mk #[54, 52, 46, 46]).data.toList = some (6, 2, 0, 0) from by decide +kernel] at h
  exact h
theorem ex8 (w : World) (hR : Vars w) : Calls Tryz.prog 12 #[.string ⟨#[51]⟩] w fun ed w' => ed = .returned (.tuple #[vl 0 0 0 0, .int .i64 12]) ∧ Below w.heap.size w w' := by
  have h := vread_any ⟨#[51]⟩ w hR (by decide)
  rw [show Val.rdv (ByteArray.mk #[51]).data.toList = none from by decide +kernel] at h
  exact h
theorem ex9 (w : World) (hR : Vars w) : Calls Tryz.prog 15 #[vl 7 0 0 0] w fun ed w' => ed = .returned (rv 0 0 40) ∧ Below w.heap.size w w' := by
  have h := length_any 7 0 0 0 w hR
  rw [show Val.lenN 7 0 0 0 = 0 from by decide +kernel, show Val.lenD 7 0 0 0 = 0 from by decide +kernel, show Val.lenE 7 0 0 0 = 40 from by decide] at h
  exact h
theorem ex10 (w : World) : Calls Tryz.prog 19 #[vl 6 2 0 0] w fun ed w' => ed = .returned (.bool true) ∧ Below w.heap.size w w' := by
  have h := vright_any 6 2 0 0 w
  rw [show Val.ok 6 2 0 0 = true from by decide] at h
  exact h
theorem ex11 (w : World) : Calls Tryz.prog 19 #[vl 0 0 3 3] w fun ed w' => ed = .returned (.bool false) ∧ Below w.heap.size w w' := by
  have h := vright_any 0 0 3 3 w
  rw [show Val.ok 0 0 3 3 = false from by decide] at h
  exact h

set_option maxRecDepth 100000 in
set_option maxHeartbeats 4000000 in
theorem examples_any (w : World) (hR : Vars w) :
    Calls Tryz.prog 11 #[] w fun ed w' => ed = .returned (.bool true) ∧ Below w.heap.size w w' := by
  have hgR := guardR
  have heR := eql_rt
  have hsR := eqR_self
  have hgV := guardV
  have heV := eql_vl
  have hsV := eqV_self
  have hB0 : Below w.heap.size w w := Below.refl _ _
  go_enter Tryz.func11, Tryz.ntmps11
  go_wp2_with fail
  have hR' := hR.below hB0
  refine (ex1 _ hR').mono ?_
  rintro e w1 ⟨rfl, hb1⟩
  clear hR'
  have hs1 := hb1
  have hB1 := below_two hB0 hs1
  clear hB0 hs1
  go_wp2_with fail
  have hR' := hR.below (hB1.alloc hB1.size (.cells #[.int .i64 3, .int .i64 16] 25))
  refine (ex2 _ hR').mono ?_
  rintro e w2 ⟨rfl, hb2⟩
  clear hR'
  have hs2 : Below w1.heap.size w1 w2 := Below.trans (by repeat (first | exact Below.refl _ _ | refine Below.alloc ?_ (by simp <;> omega) _)) (hb2.mono (by simp <;> omega))
  have c_a_0 : w2.cell? ⟨w1.heap.size, 0, none⟩ = some (.int .i64 3) := (hb2.cell (by simp <;> omega)).trans (by go_simp)
  have c_a_1 : w2.cell? ⟨w1.heap.size, 1, none⟩ = some (.int .i64 16) := (hb2.cell (by simp <;> omega)).trans (by go_simp)
  have z_a := World.block_lt_of_cell? _ _ c_a_0
  have hB2 := below_two hB1 hs2
  clear hB1 hs2 hb2
  go_wp2_with fail
  have hR' := hR.below (hB2.alloc hB2.size (.cells #[.int .i64 3, .int .i64 0, .int .i64 3, .int .i64 2] 23))
  refine (ex3 _ hR').mono ?_
  rintro e w3 ⟨rfl, hb3⟩
  clear hR'
  have hs3 : Below w2.heap.size w2 w3 := Below.trans (by repeat (first | exact Below.refl _ _ | refine Below.alloc ?_ (by simp <;> omega) _)) (hb3.mono (by simp <;> omega))
  replace c_a_0 := cell_later hs3 c_a_0
  replace c_a_1 := cell_later hs3 c_a_1
  have c_f_0 : w3.cell? ⟨w2.heap.size, 0, none⟩ = some (.int .i64 3) := (hb3.cell (by simp <;> omega)).trans (by go_simp)
  have c_f_1 : w3.cell? ⟨w2.heap.size, 1, none⟩ = some (.int .i64 0) := (hb3.cell (by simp <;> omega)).trans (by go_simp)
  have c_f_2 : w3.cell? ⟨w2.heap.size, 2, none⟩ = some (.int .i64 3) := (hb3.cell (by simp <;> omega)).trans (by go_simp)
  have c_f_3 : w3.cell? ⟨w2.heap.size, 3, none⟩ = some (.int .i64 2) := (hb3.cell (by simp <;> omega)).trans (by go_simp)
  clear z_a
  have z_a := World.block_lt_of_cell? _ _ c_a_0
  have z_f := World.block_lt_of_cell? _ _ c_f_0
  have hB3 := below_two hB2 hs3
  clear hB2 hs3 hb3
  go_wp2_with fail
  have hR' := hR.below (hB3.alloc hB3.size (.cells #[.int .i64 0, .int .i64 0, .int .i64 0, .int .i64 0] 23))
  refine (ex4 _ hR').mono ?_
  rintro e w4 ⟨⟨sv, rfl, hT⟩, hb4⟩
  clear hR'
  have hs4 : Below w3.heap.size w3 w4 := Below.trans (by repeat (first | exact Below.refl _ _ | refine Below.alloc ?_ (by simp <;> omega) _)) (hb4.mono (by simp <;> omega))
  replace c_a_0 := cell_later hs4 c_a_0
  replace c_a_1 := cell_later hs4 c_a_1
  replace c_f_0 := cell_later hs4 c_f_0
  replace c_f_1 := cell_later hs4 c_f_1
  replace c_f_2 := cell_later hs4 c_f_2
  replace c_f_3 := cell_later hs4 c_f_3
  clear z_a
  have z_a := World.block_lt_of_cell? _ _ c_a_0
  clear z_f
  have z_f := World.block_lt_of_cell? _ _ c_f_0
  have hB4 := below_two hB3 hs4
  clear hB3 hs4 hb4
  obtain ⟨g, cap, rfl, c_s_0, c_s_1, c_s_2, c_s_3, c_s_4, c_s_5, c_s_6, c_s_7⟩ := hT
  have z_s := World.block_lt_of_cell? _ _ c_s_0
  go_wp2_with fail
  have hR' := hR.below hB4
  refine (ex5 _ hR').mono ?_
  rintro e w5 ⟨rfl, hb5⟩
  clear hR'
  have hs5 := hb5
  replace c_a_0 := cell_later hs5 c_a_0
  replace c_a_1 := cell_later hs5 c_a_1
  replace c_f_0 := cell_later hs5 c_f_0
  replace c_f_1 := cell_later hs5 c_f_1
  replace c_f_2 := cell_later hs5 c_f_2
  replace c_f_3 := cell_later hs5 c_f_3
  replace c_s_0 := cell_later hs5 c_s_0
  replace c_s_1 := cell_later hs5 c_s_1
  replace c_s_2 := cell_later hs5 c_s_2
  replace c_s_3 := cell_later hs5 c_s_3
  replace c_s_4 := cell_later hs5 c_s_4
  replace c_s_5 := cell_later hs5 c_s_5
  replace c_s_6 := cell_later hs5 c_s_6
  replace c_s_7 := cell_later hs5 c_s_7
  clear z_a
  have z_a := World.block_lt_of_cell? _ _ c_a_0
  clear z_f
  have z_f := World.block_lt_of_cell? _ _ c_f_0
  clear z_s
  have z_s := World.block_lt_of_cell? _ _ c_s_0
  have hB5 := below_two hB4 hs5
  clear hB4 hs5
  go_wp2_with fail
  have hR' := hR.below hB5
  refine (ex6 _ hR').mono ?_
  rintro e w6 ⟨rfl, hb6⟩
  clear hR'
  have hs6 := hb6
  replace c_a_0 := cell_later hs6 c_a_0
  replace c_a_1 := cell_later hs6 c_a_1
  replace c_f_0 := cell_later hs6 c_f_0
  replace c_f_1 := cell_later hs6 c_f_1
  replace c_f_2 := cell_later hs6 c_f_2
  replace c_f_3 := cell_later hs6 c_f_3
  replace c_s_0 := cell_later hs6 c_s_0
  replace c_s_1 := cell_later hs6 c_s_1
  replace c_s_2 := cell_later hs6 c_s_2
  replace c_s_3 := cell_later hs6 c_s_3
  replace c_s_4 := cell_later hs6 c_s_4
  replace c_s_5 := cell_later hs6 c_s_5
  replace c_s_6 := cell_later hs6 c_s_6
  replace c_s_7 := cell_later hs6 c_s_7
  clear z_a
  have z_a := World.block_lt_of_cell? _ _ c_a_0
  clear z_f
  have z_f := World.block_lt_of_cell? _ _ c_f_0
  clear z_s
  have z_s := World.block_lt_of_cell? _ _ c_s_0
  have hB6 := below_two hB5 hs6
  clear hB5 hs6
  go_wp2_with fail
  have hR' := hR.below hB6
  refine (ex7 _ hR').mono ?_
  rintro e w7 ⟨rfl, hb7⟩
  clear hR'
  have hs7 := hb7
  replace c_a_0 := cell_later hs7 c_a_0
  replace c_a_1 := cell_later hs7 c_a_1
  replace c_f_0 := cell_later hs7 c_f_0
  replace c_f_1 := cell_later hs7 c_f_1
  replace c_f_2 := cell_later hs7 c_f_2
  replace c_f_3 := cell_later hs7 c_f_3
  replace c_s_0 := cell_later hs7 c_s_0
  replace c_s_1 := cell_later hs7 c_s_1
  replace c_s_2 := cell_later hs7 c_s_2
  replace c_s_3 := cell_later hs7 c_s_3
  replace c_s_4 := cell_later hs7 c_s_4
  replace c_s_5 := cell_later hs7 c_s_5
  replace c_s_6 := cell_later hs7 c_s_6
  replace c_s_7 := cell_later hs7 c_s_7
  clear z_a
  have z_a := World.block_lt_of_cell? _ _ c_a_0
  clear z_f
  have z_f := World.block_lt_of_cell? _ _ c_f_0
  clear z_s
  have z_s := World.block_lt_of_cell? _ _ c_s_0
  have hB7 := below_two hB6 hs7
  clear hB6 hs7
  go_wp2_with fail
  have hR' := hR.below (hB7.alloc hB7.size (.cells #[.int .i64 6, .int .i64 2, .int .i64 0, .int .i64 0] 23))
  refine (ex8 _ hR').mono ?_
  rintro e w8 ⟨rfl, hb8⟩
  clear hR'
  have hs8 : Below w7.heap.size w7 w8 := Below.trans (by repeat (first | exact Below.refl _ _ | refine Below.alloc ?_ (by simp <;> omega) _)) (hb8.mono (by simp <;> omega))
  replace c_a_0 := cell_later hs8 c_a_0
  replace c_a_1 := cell_later hs8 c_a_1
  replace c_f_0 := cell_later hs8 c_f_0
  replace c_f_1 := cell_later hs8 c_f_1
  replace c_f_2 := cell_later hs8 c_f_2
  replace c_f_3 := cell_later hs8 c_f_3
  replace c_s_0 := cell_later hs8 c_s_0
  replace c_s_1 := cell_later hs8 c_s_1
  replace c_s_2 := cell_later hs8 c_s_2
  replace c_s_3 := cell_later hs8 c_s_3
  replace c_s_4 := cell_later hs8 c_s_4
  replace c_s_5 := cell_later hs8 c_s_5
  replace c_s_6 := cell_later hs8 c_s_6
  replace c_s_7 := cell_later hs8 c_s_7
  have c_v_0 : w8.cell? ⟨w7.heap.size, 0, none⟩ = some (.int .i64 6) := (hb8.cell (by simp <;> omega)).trans (by go_simp)
  have c_v_1 : w8.cell? ⟨w7.heap.size, 1, none⟩ = some (.int .i64 2) := (hb8.cell (by simp <;> omega)).trans (by go_simp)
  have c_v_2 : w8.cell? ⟨w7.heap.size, 2, none⟩ = some (.int .i64 0) := (hb8.cell (by simp <;> omega)).trans (by go_simp)
  have c_v_3 : w8.cell? ⟨w7.heap.size, 3, none⟩ = some (.int .i64 0) := (hb8.cell (by simp <;> omega)).trans (by go_simp)
  clear z_a
  have z_a := World.block_lt_of_cell? _ _ c_a_0
  clear z_f
  have z_f := World.block_lt_of_cell? _ _ c_f_0
  clear z_s
  have z_s := World.block_lt_of_cell? _ _ c_s_0
  have z_v := World.block_lt_of_cell? _ _ c_v_0
  have hB8 := below_two hB7 hs8
  clear hB7 hs8 hb8
  go_wp2_with fail
  have hR' := hR.below (hB8.alloc hB8.size (.cells #[.int .i64 0, .int .i64 0, .int .i64 0, .int .i64 0] 23))
  refine (ex9 _ hR').mono ?_
  rintro e w9 ⟨rfl, hb9⟩
  clear hR'
  have hs9 : Below w8.heap.size w8 w9 := Below.trans (by repeat (first | exact Below.refl _ _ | refine Below.alloc ?_ (by simp <;> omega) _)) (hb9.mono (by simp <;> omega))
  replace c_a_0 := cell_later hs9 c_a_0
  replace c_a_1 := cell_later hs9 c_a_1
  replace c_f_0 := cell_later hs9 c_f_0
  replace c_f_1 := cell_later hs9 c_f_1
  replace c_f_2 := cell_later hs9 c_f_2
  replace c_f_3 := cell_later hs9 c_f_3
  replace c_s_0 := cell_later hs9 c_s_0
  replace c_s_1 := cell_later hs9 c_s_1
  replace c_s_2 := cell_later hs9 c_s_2
  replace c_s_3 := cell_later hs9 c_s_3
  replace c_s_4 := cell_later hs9 c_s_4
  replace c_s_5 := cell_later hs9 c_s_5
  replace c_s_6 := cell_later hs9 c_s_6
  replace c_s_7 := cell_later hs9 c_s_7
  replace c_v_0 := cell_later hs9 c_v_0
  replace c_v_1 := cell_later hs9 c_v_1
  replace c_v_2 := cell_later hs9 c_v_2
  replace c_v_3 := cell_later hs9 c_v_3
  clear z_a
  have z_a := World.block_lt_of_cell? _ _ c_a_0
  clear z_f
  have z_f := World.block_lt_of_cell? _ _ c_f_0
  clear z_s
  have z_s := World.block_lt_of_cell? _ _ c_s_0
  clear z_v
  have z_v := World.block_lt_of_cell? _ _ c_v_0
  have hB9 := below_two hB8 hs9
  clear hB8 hs9 hb9
  go_wp2_with fail
  have hR' := hR.below (hB9.alloc hB9.size (.cells #[.int .i64 0, .int .i64 0] 25))
  refine (ex10 _).mono ?_
  rintro e w10 ⟨rfl, hb10⟩
  clear hR'
  have hs10 : Below w9.heap.size w9 w10 := Below.trans (by repeat (first | exact Below.refl _ _ | refine Below.alloc ?_ (by simp <;> omega) _)) (hb10.mono (by simp <;> omega))
  replace c_a_0 := cell_later hs10 c_a_0
  replace c_a_1 := cell_later hs10 c_a_1
  replace c_f_0 := cell_later hs10 c_f_0
  replace c_f_1 := cell_later hs10 c_f_1
  replace c_f_2 := cell_later hs10 c_f_2
  replace c_f_3 := cell_later hs10 c_f_3
  replace c_s_0 := cell_later hs10 c_s_0
  replace c_s_1 := cell_later hs10 c_s_1
  replace c_s_2 := cell_later hs10 c_s_2
  replace c_s_3 := cell_later hs10 c_s_3
  replace c_s_4 := cell_later hs10 c_s_4
  replace c_s_5 := cell_later hs10 c_s_5
  replace c_s_6 := cell_later hs10 c_s_6
  replace c_s_7 := cell_later hs10 c_s_7
  replace c_v_0 := cell_later hs10 c_v_0
  replace c_v_1 := cell_later hs10 c_v_1
  replace c_v_2 := cell_later hs10 c_v_2
  replace c_v_3 := cell_later hs10 c_v_3
  clear z_a
  have z_a := World.block_lt_of_cell? _ _ c_a_0
  clear z_f
  have z_f := World.block_lt_of_cell? _ _ c_f_0
  clear z_s
  have z_s := World.block_lt_of_cell? _ _ c_s_0
  clear z_v
  have z_v := World.block_lt_of_cell? _ _ c_v_0
  have hB10 := below_two hB9 hs10
  clear hB9 hs10 hb10
  go_wp2_with fail
  have hR' := hR.below hB10
  refine (ex11 _).mono ?_
  rintro e w11 ⟨rfl, hb11⟩
  clear hR'
  have hs11 := hb11
  clear c_a_0
  clear c_a_1
  clear c_f_0
  clear c_f_1
  clear c_f_2
  clear c_f_3
  clear c_s_0
  clear c_s_1
  clear c_s_2
  clear c_s_3
  clear c_s_4
  clear c_s_5
  clear c_s_6
  clear c_s_7
  clear c_v_0
  clear c_v_1
  clear c_v_2
  clear c_v_3
  clear z_a
  clear z_f
  clear z_s
  clear z_v
  have hB11 := below_two hB10 hs11
  clear hB10 hs11
  go_wp2
  go_ret
  exact ⟨rfl, hB11⟩
end Go.Proofs.YtejiifkenanodaaGreatDoor
