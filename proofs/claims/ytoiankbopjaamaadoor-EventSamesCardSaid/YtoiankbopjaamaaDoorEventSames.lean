/-
  EventSames answers true: the law's walk.
-/
import Derived.Test.YtoiankbopjaamaaDoorEvLaw
import Derived.Test.YtoiankbopjaamaaDoorEvRefS
namespace Go.Proofs.YtoiankbopjaamaaDoor
open Go.RowKit
open Evt (P3 Ev)

set_option maxRecDepth 100000 in
set_option maxHeartbeats 40000000 in
theorem sames_a (x : Ev) (y : Ev) (vp vt vm : Value) (up ut um : Value) (w : World) (h0 : EvR w vp vt vm x) (h1 : EvR w up ut um y) (hR : Ready w) (hq : fewE x = false):
    Calls Tryd.prog 4 #[evv x vp vt vm, evv y up ut um] w fun ed w' => ed = .returned (.bool true) ∧ Below w.heap.size w w' := by
  have hgR := guardR
  have hgV := guardV
  have heR := eql_rt
  have hsR := eqR_self
  have hsP := eqP_self
  have hgP := guardP
  have heP := eql_pt
  have HQ := Lib.hid hq
  clear hq
  obtain ⟨k, ps, ts, b, d, n, e0, ms, str⟩ := x
  have HX0 := Lib.hid h0
  obtain ⟨Pps, Cps, e1, _⟩ := sl_shape h0.ps
  obtain ⟨Pts, Cts, e2, _⟩ := sl_shape h0.ts
  obtain ⟨Pms, Cms, e3, _⟩ := sl_shape h0.ms
  dsimp only at e1 e2 e3
  subst e1 e2 e3
  clear h0
  obtain ⟨k1, ps1, ts1, b1, d1, n1, e01, ms1, str1⟩ := y
  have HX1 := Lib.hid h1
  obtain ⟨Pps1, Cps1, e1, _⟩ := sl_shape h1.ps
  obtain ⟨Pts1, Cts1, e2, _⟩ := sl_shape h1.ts
  obtain ⟨Pms1, Cms1, e3, _⟩ := sl_shape h1.ms
  dsimp only at e1 e2 e3
  subst e1 e2 e3
  clear h1
  have hB0 : Below w.heap.size w w := Below.refl _ _
  go_enter Tryd.func4, Tryd.ntmps4
  go_wp2_with fail
  have hR' := hR.below ((hB0.alloc hB0.size (.cells #[.int .i64 k, .slice Pps ps.length Cps, .slice Pts ts.length Cts, .int .i64 b, .int .i64 d, .int .i64 n, .int .i64 e0, .slice Pms ms.length Cms, .string str] 28)).alloc (hB0.alloc hB0.size (.cells #[.int .i64 k, .slice Pps ps.length Cps, .slice Pts ts.length Cts, .int .i64 b, .int .i64 d, .int .i64 n, .int .i64 e0, .slice Pms ms.length Cms, .string str] 28)).size (.cells #[.int .i64 k1, .slice Pps1 ps1.length Cps1, .slice Pts1 ts1.length Cts1, .int .i64 b1, .int .i64 d1, .int .i64 n1, .int .i64 e01, .slice Pms1 ms1.length Cms1, .string str1] 28))
  refine (awake_any _ hR').mono ?_
  rintro e w1 ⟨rfl, hb1⟩
  clear hR'
  have hs1 : Below w.heap.size w w1 := Below.trans (by repeat (first | exact Below.refl _ _ | refine Below.alloc ?_ (by simp <;> omega) _)) (hb1.mono (by simp <;> omega))
  have c_e_0 : w1.cell? ⟨w.heap.size, 0, none⟩ = some (.int .i64 k) := (hb1.cell (by simp <;> omega)).trans (by go_simp)
  have c_e_1 : w1.cell? ⟨w.heap.size, 1, none⟩ = some (.slice Pps ps.length Cps) := (hb1.cell (by simp <;> omega)).trans (by go_simp)
  have c_e_2 : w1.cell? ⟨w.heap.size, 2, none⟩ = some (.slice Pts ts.length Cts) := (hb1.cell (by simp <;> omega)).trans (by go_simp)
  have c_e_3 : w1.cell? ⟨w.heap.size, 3, none⟩ = some (.int .i64 b) := (hb1.cell (by simp <;> omega)).trans (by go_simp)
  have c_e_4 : w1.cell? ⟨w.heap.size, 4, none⟩ = some (.int .i64 d) := (hb1.cell (by simp <;> omega)).trans (by go_simp)
  have c_e_5 : w1.cell? ⟨w.heap.size, 5, none⟩ = some (.int .i64 n) := (hb1.cell (by simp <;> omega)).trans (by go_simp)
  have c_e_6 : w1.cell? ⟨w.heap.size, 6, none⟩ = some (.int .i64 e0) := (hb1.cell (by simp <;> omega)).trans (by go_simp)
  have c_e_7 : w1.cell? ⟨w.heap.size, 7, none⟩ = some (.slice Pms ms.length Cms) := (hb1.cell (by simp <;> omega)).trans (by go_simp)
  have c_e_8 : w1.cell? ⟨w.heap.size, 8, none⟩ = some (.string str) := (hb1.cell (by simp <;> omega)).trans (by go_simp)
  have c_f_0 : w1.cell? ⟨w.heap.size + 1, 0, none⟩ = some (.int .i64 k1) := (hb1.cell (by simp <;> omega)).trans (by go_simp)
  have c_f_1 : w1.cell? ⟨w.heap.size + 1, 1, none⟩ = some (.slice Pps1 ps1.length Cps1) := (hb1.cell (by simp <;> omega)).trans (by go_simp)
  have c_f_2 : w1.cell? ⟨w.heap.size + 1, 2, none⟩ = some (.slice Pts1 ts1.length Cts1) := (hb1.cell (by simp <;> omega)).trans (by go_simp)
  have c_f_3 : w1.cell? ⟨w.heap.size + 1, 3, none⟩ = some (.int .i64 b1) := (hb1.cell (by simp <;> omega)).trans (by go_simp)
  have c_f_4 : w1.cell? ⟨w.heap.size + 1, 4, none⟩ = some (.int .i64 d1) := (hb1.cell (by simp <;> omega)).trans (by go_simp)
  have c_f_5 : w1.cell? ⟨w.heap.size + 1, 5, none⟩ = some (.int .i64 n1) := (hb1.cell (by simp <;> omega)).trans (by go_simp)
  have c_f_6 : w1.cell? ⟨w.heap.size + 1, 6, none⟩ = some (.int .i64 e01) := (hb1.cell (by simp <;> omega)).trans (by go_simp)
  have c_f_7 : w1.cell? ⟨w.heap.size + 1, 7, none⟩ = some (.slice Pms1 ms1.length Cms1) := (hb1.cell (by simp <;> omega)).trans (by go_simp)
  have c_f_8 : w1.cell? ⟨w.heap.size + 1, 8, none⟩ = some (.string str1) := (hb1.cell (by simp <;> omega)).trans (by go_simp)
  have z_e : w.heap.size < _ := World.block_lt_of_cell? _ _ c_e_0
  have z_f : w.heap.size + 1 < _ := World.block_lt_of_cell? _ _ c_f_0
  have hB1 := below_two hB0 hs1
  clear hB0 hs1 hb1
  go_wp2_with fail
  have hs2 : Below w1.heap.size w1 w1 := by repeat (first | exact Below.refl _ _ | refine Below.alloc ?_ (by simp <;> omega) _)
  replace c_e_0 := cell_later hs2 c_e_0
  replace c_e_1 := cell_later hs2 c_e_1
  replace c_e_2 := cell_later hs2 c_e_2
  replace c_e_3 := cell_later hs2 c_e_3
  replace c_e_4 := cell_later hs2 c_e_4
  replace c_e_5 := cell_later hs2 c_e_5
  replace c_e_6 := cell_later hs2 c_e_6
  replace c_e_7 := cell_later hs2 c_e_7
  replace c_e_8 := cell_later hs2 c_e_8
  replace c_f_0 := cell_later hs2 c_f_0
  replace c_f_1 := cell_later hs2 c_f_1
  replace c_f_2 := cell_later hs2 c_f_2
  replace c_f_3 := cell_later hs2 c_f_3
  replace c_f_4 := cell_later hs2 c_f_4
  replace c_f_5 := cell_later hs2 c_f_5
  replace c_f_6 := cell_later hs2 c_f_6
  replace c_f_7 := cell_later hs2 c_f_7
  replace c_f_8 := cell_later hs2 c_f_8
  have hB2 := below_two hB1 hs2
  clear hB1 hs2
  have y2_e := z_e
  have y2_f := z_f
  generalize w1 = w2 at *
  clear z_e
  have z_e : w.heap.size < _ := World.block_lt_of_cell? _ _ c_e_0
  clear z_f
  have z_f : w.heap.size + 1 < _ := World.block_lt_of_cell? _ _ c_f_0
  go_wp2_with fail
  have hR' := hR.below hB2
  refine (few_is HQ.out _ _ _ _ (HX0.out.later hB2)).mono ?_
  rintro e w3 ⟨rfl, hb3⟩
  clear hR'
  have hs3 := hb3
  replace c_e_0 := cell_later hs3 c_e_0
  replace c_e_1 := cell_later hs3 c_e_1
  replace c_e_2 := cell_later hs3 c_e_2
  replace c_e_3 := cell_later hs3 c_e_3
  replace c_e_4 := cell_later hs3 c_e_4
  replace c_e_5 := cell_later hs3 c_e_5
  replace c_e_6 := cell_later hs3 c_e_6
  replace c_e_7 := cell_later hs3 c_e_7
  replace c_e_8 := cell_later hs3 c_e_8
  replace c_f_0 := cell_later hs3 c_f_0
  replace c_f_1 := cell_later hs3 c_f_1
  replace c_f_2 := cell_later hs3 c_f_2
  replace c_f_3 := cell_later hs3 c_f_3
  replace c_f_4 := cell_later hs3 c_f_4
  replace c_f_5 := cell_later hs3 c_f_5
  replace c_f_6 := cell_later hs3 c_f_6
  replace c_f_7 := cell_later hs3 c_f_7
  replace c_f_8 := cell_later hs3 c_f_8
  clear z_e
  have z_e : w.heap.size < _ := World.block_lt_of_cell? _ _ c_e_0
  clear z_f
  have z_f : w.heap.size + 1 < _ := World.block_lt_of_cell? _ _ c_f_0
  have hB3 := below_two hB2 hs3
  clear hB2 hs3
  go_wp2
  go_ret
  exact ⟨rfl, hB3⟩

set_option maxRecDepth 100000 in
set_option maxHeartbeats 40000000 in
theorem sames_b (x : Ev) (y : Ev) (vp vt vm : Value) (up ut um : Value) (w : World) (h0 : EvR w vp vt vm x) (h1 : EvR w up ut um y) (hR : Ready w) (hq : fewE x = true) (hp : fewE y = false):
    Calls Tryd.prog 4 #[evv x vp vt vm, evv y up ut um] w fun ed w' => ed = .returned (.bool true) ∧ Below w.heap.size w w' := by
  have hgR := guardR
  have hgV := guardV
  have heR := eql_rt
  have hsR := eqR_self
  have hsP := eqP_self
  have hgP := guardP
  have heP := eql_pt
  have HQ := Lib.hid hq
  clear hq
  have HP := Lib.hid hp
  clear hp
  obtain ⟨k, ps, ts, b, d, n, e0, ms, str⟩ := x
  have HX0 := Lib.hid h0
  obtain ⟨Pps, Cps, e1, _⟩ := sl_shape h0.ps
  obtain ⟨Pts, Cts, e2, _⟩ := sl_shape h0.ts
  obtain ⟨Pms, Cms, e3, _⟩ := sl_shape h0.ms
  dsimp only at e1 e2 e3
  subst e1 e2 e3
  clear h0
  obtain ⟨k1, ps1, ts1, b1, d1, n1, e01, ms1, str1⟩ := y
  have HX1 := Lib.hid h1
  obtain ⟨Pps1, Cps1, e1, _⟩ := sl_shape h1.ps
  obtain ⟨Pts1, Cts1, e2, _⟩ := sl_shape h1.ts
  obtain ⟨Pms1, Cms1, e3, _⟩ := sl_shape h1.ms
  dsimp only at e1 e2 e3
  subst e1 e2 e3
  clear h1
  have hB0 : Below w.heap.size w w := Below.refl _ _
  go_enter Tryd.func4, Tryd.ntmps4
  go_wp2_with fail
  have hR' := hR.below ((hB0.alloc hB0.size (.cells #[.int .i64 k, .slice Pps ps.length Cps, .slice Pts ts.length Cts, .int .i64 b, .int .i64 d, .int .i64 n, .int .i64 e0, .slice Pms ms.length Cms, .string str] 28)).alloc (hB0.alloc hB0.size (.cells #[.int .i64 k, .slice Pps ps.length Cps, .slice Pts ts.length Cts, .int .i64 b, .int .i64 d, .int .i64 n, .int .i64 e0, .slice Pms ms.length Cms, .string str] 28)).size (.cells #[.int .i64 k1, .slice Pps1 ps1.length Cps1, .slice Pts1 ts1.length Cts1, .int .i64 b1, .int .i64 d1, .int .i64 n1, .int .i64 e01, .slice Pms1 ms1.length Cms1, .string str1] 28))
  refine (awake_any _ hR').mono ?_
  rintro e w1 ⟨rfl, hb1⟩
  clear hR'
  have hs1 : Below w.heap.size w w1 := Below.trans (by repeat (first | exact Below.refl _ _ | refine Below.alloc ?_ (by simp <;> omega) _)) (hb1.mono (by simp <;> omega))
  have c_e_0 : w1.cell? ⟨w.heap.size, 0, none⟩ = some (.int .i64 k) := (hb1.cell (by simp <;> omega)).trans (by go_simp)
  have c_e_1 : w1.cell? ⟨w.heap.size, 1, none⟩ = some (.slice Pps ps.length Cps) := (hb1.cell (by simp <;> omega)).trans (by go_simp)
  have c_e_2 : w1.cell? ⟨w.heap.size, 2, none⟩ = some (.slice Pts ts.length Cts) := (hb1.cell (by simp <;> omega)).trans (by go_simp)
  have c_e_3 : w1.cell? ⟨w.heap.size, 3, none⟩ = some (.int .i64 b) := (hb1.cell (by simp <;> omega)).trans (by go_simp)
  have c_e_4 : w1.cell? ⟨w.heap.size, 4, none⟩ = some (.int .i64 d) := (hb1.cell (by simp <;> omega)).trans (by go_simp)
  have c_e_5 : w1.cell? ⟨w.heap.size, 5, none⟩ = some (.int .i64 n) := (hb1.cell (by simp <;> omega)).trans (by go_simp)
  have c_e_6 : w1.cell? ⟨w.heap.size, 6, none⟩ = some (.int .i64 e0) := (hb1.cell (by simp <;> omega)).trans (by go_simp)
  have c_e_7 : w1.cell? ⟨w.heap.size, 7, none⟩ = some (.slice Pms ms.length Cms) := (hb1.cell (by simp <;> omega)).trans (by go_simp)
  have c_e_8 : w1.cell? ⟨w.heap.size, 8, none⟩ = some (.string str) := (hb1.cell (by simp <;> omega)).trans (by go_simp)
  have c_f_0 : w1.cell? ⟨w.heap.size + 1, 0, none⟩ = some (.int .i64 k1) := (hb1.cell (by simp <;> omega)).trans (by go_simp)
  have c_f_1 : w1.cell? ⟨w.heap.size + 1, 1, none⟩ = some (.slice Pps1 ps1.length Cps1) := (hb1.cell (by simp <;> omega)).trans (by go_simp)
  have c_f_2 : w1.cell? ⟨w.heap.size + 1, 2, none⟩ = some (.slice Pts1 ts1.length Cts1) := (hb1.cell (by simp <;> omega)).trans (by go_simp)
  have c_f_3 : w1.cell? ⟨w.heap.size + 1, 3, none⟩ = some (.int .i64 b1) := (hb1.cell (by simp <;> omega)).trans (by go_simp)
  have c_f_4 : w1.cell? ⟨w.heap.size + 1, 4, none⟩ = some (.int .i64 d1) := (hb1.cell (by simp <;> omega)).trans (by go_simp)
  have c_f_5 : w1.cell? ⟨w.heap.size + 1, 5, none⟩ = some (.int .i64 n1) := (hb1.cell (by simp <;> omega)).trans (by go_simp)
  have c_f_6 : w1.cell? ⟨w.heap.size + 1, 6, none⟩ = some (.int .i64 e01) := (hb1.cell (by simp <;> omega)).trans (by go_simp)
  have c_f_7 : w1.cell? ⟨w.heap.size + 1, 7, none⟩ = some (.slice Pms1 ms1.length Cms1) := (hb1.cell (by simp <;> omega)).trans (by go_simp)
  have c_f_8 : w1.cell? ⟨w.heap.size + 1, 8, none⟩ = some (.string str1) := (hb1.cell (by simp <;> omega)).trans (by go_simp)
  have z_e : w.heap.size < _ := World.block_lt_of_cell? _ _ c_e_0
  have z_f : w.heap.size + 1 < _ := World.block_lt_of_cell? _ _ c_f_0
  have hB1 := below_two hB0 hs1
  clear hB0 hs1 hb1
  go_wp2_with fail
  have hs2 : Below w1.heap.size w1 w1 := by repeat (first | exact Below.refl _ _ | refine Below.alloc ?_ (by simp <;> omega) _)
  replace c_e_0 := cell_later hs2 c_e_0
  replace c_e_1 := cell_later hs2 c_e_1
  replace c_e_2 := cell_later hs2 c_e_2
  replace c_e_3 := cell_later hs2 c_e_3
  replace c_e_4 := cell_later hs2 c_e_4
  replace c_e_5 := cell_later hs2 c_e_5
  replace c_e_6 := cell_later hs2 c_e_6
  replace c_e_7 := cell_later hs2 c_e_7
  replace c_e_8 := cell_later hs2 c_e_8
  replace c_f_0 := cell_later hs2 c_f_0
  replace c_f_1 := cell_later hs2 c_f_1
  replace c_f_2 := cell_later hs2 c_f_2
  replace c_f_3 := cell_later hs2 c_f_3
  replace c_f_4 := cell_later hs2 c_f_4
  replace c_f_5 := cell_later hs2 c_f_5
  replace c_f_6 := cell_later hs2 c_f_6
  replace c_f_7 := cell_later hs2 c_f_7
  replace c_f_8 := cell_later hs2 c_f_8
  have hB2 := below_two hB1 hs2
  clear hB1 hs2
  have y2_e := z_e
  have y2_f := z_f
  generalize w1 = w2 at *
  clear z_e
  have z_e : w.heap.size < _ := World.block_lt_of_cell? _ _ c_e_0
  clear z_f
  have z_f : w.heap.size + 1 < _ := World.block_lt_of_cell? _ _ c_f_0
  go_wp2_with fail
  have hR' := hR.below hB2
  refine (few_is HQ.out _ _ _ _ (HX0.out.later hB2)).mono ?_
  rintro e w3 ⟨rfl, hb3⟩
  clear hR'
  have hs3 := hb3
  replace c_e_0 := cell_later hs3 c_e_0
  replace c_e_1 := cell_later hs3 c_e_1
  replace c_e_2 := cell_later hs3 c_e_2
  replace c_e_3 := cell_later hs3 c_e_3
  replace c_e_4 := cell_later hs3 c_e_4
  replace c_e_5 := cell_later hs3 c_e_5
  replace c_e_6 := cell_later hs3 c_e_6
  replace c_e_7 := cell_later hs3 c_e_7
  replace c_e_8 := cell_later hs3 c_e_8
  replace c_f_0 := cell_later hs3 c_f_0
  replace c_f_1 := cell_later hs3 c_f_1
  replace c_f_2 := cell_later hs3 c_f_2
  replace c_f_3 := cell_later hs3 c_f_3
  replace c_f_4 := cell_later hs3 c_f_4
  replace c_f_5 := cell_later hs3 c_f_5
  replace c_f_6 := cell_later hs3 c_f_6
  replace c_f_7 := cell_later hs3 c_f_7
  replace c_f_8 := cell_later hs3 c_f_8
  clear z_e
  have z_e : w.heap.size < _ := World.block_lt_of_cell? _ _ c_e_0
  clear z_f
  have z_f : w.heap.size + 1 < _ := World.block_lt_of_cell? _ _ c_f_0
  have hB3 := below_two hB2 hs3
  clear hB2 hs3
  go_wp2_with fail
  have hR' := hR.below hB3
  refine (few_is HP.out _ _ _ _ (HX1.out.later hB3)).mono ?_
  rintro e w4 ⟨rfl, hb4⟩
  clear hR'
  have hs4 := hb4
  replace c_e_0 := cell_later hs4 c_e_0
  replace c_e_1 := cell_later hs4 c_e_1
  replace c_e_2 := cell_later hs4 c_e_2
  replace c_e_3 := cell_later hs4 c_e_3
  replace c_e_4 := cell_later hs4 c_e_4
  replace c_e_5 := cell_later hs4 c_e_5
  replace c_e_6 := cell_later hs4 c_e_6
  replace c_e_7 := cell_later hs4 c_e_7
  replace c_e_8 := cell_later hs4 c_e_8
  replace c_f_0 := cell_later hs4 c_f_0
  replace c_f_1 := cell_later hs4 c_f_1
  replace c_f_2 := cell_later hs4 c_f_2
  replace c_f_3 := cell_later hs4 c_f_3
  replace c_f_4 := cell_later hs4 c_f_4
  replace c_f_5 := cell_later hs4 c_f_5
  replace c_f_6 := cell_later hs4 c_f_6
  replace c_f_7 := cell_later hs4 c_f_7
  replace c_f_8 := cell_later hs4 c_f_8
  clear z_e
  have z_e : w.heap.size < _ := World.block_lt_of_cell? _ _ c_e_0
  clear z_f
  have z_f : w.heap.size + 1 < _ := World.block_lt_of_cell? _ _ c_f_0
  have hB4 := below_two hB3 hs4
  clear hB3 hs4
  go_wp2
  go_ret
  exact ⟨rfl, hB4⟩

set_option maxRecDepth 100000 in
set_option maxHeartbeats 40000000 in
theorem sames_true (x : Ev) (y : Ev) (vp vt vm : Value) (up ut um : Value) (w : World) (h0 : EvR w vp vt vm x) (h1 : EvR w up ut um y) (hR : Ready w) (hq : fewE x = true) (hp : fewE y = true) (hs : sameE x y = true) (ht : sameE y x = true):
    Calls Tryd.prog 4 #[evv x vp vt vm, evv y up ut um] w fun ed w' => ed = .returned (.bool true) ∧ Below w.heap.size w w' := by
  have hgR := guardR
  have hgV := guardV
  have heR := eql_rt
  have hsR := eqR_self
  have hsP := eqP_self
  have hgP := guardP
  have heP := eql_pt
  have HQ := Lib.hid hq
  clear hq
  have HP := Lib.hid hp
  clear hp
  have HS := Lib.hid hs
  clear hs
  have HT := Lib.hid ht
  clear ht
  obtain ⟨k, ps, ts, b, d, n, e0, ms, str⟩ := x
  have HX0 := Lib.hid h0
  obtain ⟨Pps, Cps, e1, _⟩ := sl_shape h0.ps
  obtain ⟨Pts, Cts, e2, _⟩ := sl_shape h0.ts
  obtain ⟨Pms, Cms, e3, _⟩ := sl_shape h0.ms
  dsimp only at e1 e2 e3
  subst e1 e2 e3
  clear h0
  obtain ⟨k1, ps1, ts1, b1, d1, n1, e01, ms1, str1⟩ := y
  have HX1 := Lib.hid h1
  obtain ⟨Pps1, Cps1, e1, _⟩ := sl_shape h1.ps
  obtain ⟨Pts1, Cts1, e2, _⟩ := sl_shape h1.ts
  obtain ⟨Pms1, Cms1, e3, _⟩ := sl_shape h1.ms
  dsimp only at e1 e2 e3
  subst e1 e2 e3
  clear h1
  have hB0 : Below w.heap.size w w := Below.refl _ _
  go_enter Tryd.func4, Tryd.ntmps4
  go_wp2_with fail
  have hR' := hR.below ((hB0.alloc hB0.size (.cells #[.int .i64 k, .slice Pps ps.length Cps, .slice Pts ts.length Cts, .int .i64 b, .int .i64 d, .int .i64 n, .int .i64 e0, .slice Pms ms.length Cms, .string str] 28)).alloc (hB0.alloc hB0.size (.cells #[.int .i64 k, .slice Pps ps.length Cps, .slice Pts ts.length Cts, .int .i64 b, .int .i64 d, .int .i64 n, .int .i64 e0, .slice Pms ms.length Cms, .string str] 28)).size (.cells #[.int .i64 k1, .slice Pps1 ps1.length Cps1, .slice Pts1 ts1.length Cts1, .int .i64 b1, .int .i64 d1, .int .i64 n1, .int .i64 e01, .slice Pms1 ms1.length Cms1, .string str1] 28))
  refine (awake_any _ hR').mono ?_
  rintro e w1 ⟨rfl, hb1⟩
  clear hR'
  have hs1 : Below w.heap.size w w1 := Below.trans (by repeat (first | exact Below.refl _ _ | refine Below.alloc ?_ (by simp <;> omega) _)) (hb1.mono (by simp <;> omega))
  have c_e_0 : w1.cell? ⟨w.heap.size, 0, none⟩ = some (.int .i64 k) := (hb1.cell (by simp <;> omega)).trans (by go_simp)
  have c_e_1 : w1.cell? ⟨w.heap.size, 1, none⟩ = some (.slice Pps ps.length Cps) := (hb1.cell (by simp <;> omega)).trans (by go_simp)
  have c_e_2 : w1.cell? ⟨w.heap.size, 2, none⟩ = some (.slice Pts ts.length Cts) := (hb1.cell (by simp <;> omega)).trans (by go_simp)
  have c_e_3 : w1.cell? ⟨w.heap.size, 3, none⟩ = some (.int .i64 b) := (hb1.cell (by simp <;> omega)).trans (by go_simp)
  have c_e_4 : w1.cell? ⟨w.heap.size, 4, none⟩ = some (.int .i64 d) := (hb1.cell (by simp <;> omega)).trans (by go_simp)
  have c_e_5 : w1.cell? ⟨w.heap.size, 5, none⟩ = some (.int .i64 n) := (hb1.cell (by simp <;> omega)).trans (by go_simp)
  have c_e_6 : w1.cell? ⟨w.heap.size, 6, none⟩ = some (.int .i64 e0) := (hb1.cell (by simp <;> omega)).trans (by go_simp)
  have c_e_7 : w1.cell? ⟨w.heap.size, 7, none⟩ = some (.slice Pms ms.length Cms) := (hb1.cell (by simp <;> omega)).trans (by go_simp)
  have c_e_8 : w1.cell? ⟨w.heap.size, 8, none⟩ = some (.string str) := (hb1.cell (by simp <;> omega)).trans (by go_simp)
  have c_f_0 : w1.cell? ⟨w.heap.size + 1, 0, none⟩ = some (.int .i64 k1) := (hb1.cell (by simp <;> omega)).trans (by go_simp)
  have c_f_1 : w1.cell? ⟨w.heap.size + 1, 1, none⟩ = some (.slice Pps1 ps1.length Cps1) := (hb1.cell (by simp <;> omega)).trans (by go_simp)
  have c_f_2 : w1.cell? ⟨w.heap.size + 1, 2, none⟩ = some (.slice Pts1 ts1.length Cts1) := (hb1.cell (by simp <;> omega)).trans (by go_simp)
  have c_f_3 : w1.cell? ⟨w.heap.size + 1, 3, none⟩ = some (.int .i64 b1) := (hb1.cell (by simp <;> omega)).trans (by go_simp)
  have c_f_4 : w1.cell? ⟨w.heap.size + 1, 4, none⟩ = some (.int .i64 d1) := (hb1.cell (by simp <;> omega)).trans (by go_simp)
  have c_f_5 : w1.cell? ⟨w.heap.size + 1, 5, none⟩ = some (.int .i64 n1) := (hb1.cell (by simp <;> omega)).trans (by go_simp)
  have c_f_6 : w1.cell? ⟨w.heap.size + 1, 6, none⟩ = some (.int .i64 e01) := (hb1.cell (by simp <;> omega)).trans (by go_simp)
  have c_f_7 : w1.cell? ⟨w.heap.size + 1, 7, none⟩ = some (.slice Pms1 ms1.length Cms1) := (hb1.cell (by simp <;> omega)).trans (by go_simp)
  have c_f_8 : w1.cell? ⟨w.heap.size + 1, 8, none⟩ = some (.string str1) := (hb1.cell (by simp <;> omega)).trans (by go_simp)
  have z_e : w.heap.size < _ := World.block_lt_of_cell? _ _ c_e_0
  have z_f : w.heap.size + 1 < _ := World.block_lt_of_cell? _ _ c_f_0
  have hB1 := below_two hB0 hs1
  clear hB0 hs1 hb1
  go_wp2_with fail
  have hs2 : Below w1.heap.size w1 w1 := by repeat (first | exact Below.refl _ _ | refine Below.alloc ?_ (by simp <;> omega) _)
  replace c_e_0 := cell_later hs2 c_e_0
  replace c_e_1 := cell_later hs2 c_e_1
  replace c_e_2 := cell_later hs2 c_e_2
  replace c_e_3 := cell_later hs2 c_e_3
  replace c_e_4 := cell_later hs2 c_e_4
  replace c_e_5 := cell_later hs2 c_e_5
  replace c_e_6 := cell_later hs2 c_e_6
  replace c_e_7 := cell_later hs2 c_e_7
  replace c_e_8 := cell_later hs2 c_e_8
  replace c_f_0 := cell_later hs2 c_f_0
  replace c_f_1 := cell_later hs2 c_f_1
  replace c_f_2 := cell_later hs2 c_f_2
  replace c_f_3 := cell_later hs2 c_f_3
  replace c_f_4 := cell_later hs2 c_f_4
  replace c_f_5 := cell_later hs2 c_f_5
  replace c_f_6 := cell_later hs2 c_f_6
  replace c_f_7 := cell_later hs2 c_f_7
  replace c_f_8 := cell_later hs2 c_f_8
  have hB2 := below_two hB1 hs2
  clear hB1 hs2
  have y2_e := z_e
  have y2_f := z_f
  generalize w1 = w2 at *
  clear z_e
  have z_e : w.heap.size < _ := World.block_lt_of_cell? _ _ c_e_0
  clear z_f
  have z_f : w.heap.size + 1 < _ := World.block_lt_of_cell? _ _ c_f_0
  go_wp2_with fail
  have hR' := hR.below hB2
  refine (few_is HQ.out _ _ _ _ (HX0.out.later hB2)).mono ?_
  rintro e w3 ⟨rfl, hb3⟩
  clear hR'
  have hs3 := hb3
  replace c_e_0 := cell_later hs3 c_e_0
  replace c_e_1 := cell_later hs3 c_e_1
  replace c_e_2 := cell_later hs3 c_e_2
  replace c_e_3 := cell_later hs3 c_e_3
  replace c_e_4 := cell_later hs3 c_e_4
  replace c_e_5 := cell_later hs3 c_e_5
  replace c_e_6 := cell_later hs3 c_e_6
  replace c_e_7 := cell_later hs3 c_e_7
  replace c_e_8 := cell_later hs3 c_e_8
  replace c_f_0 := cell_later hs3 c_f_0
  replace c_f_1 := cell_later hs3 c_f_1
  replace c_f_2 := cell_later hs3 c_f_2
  replace c_f_3 := cell_later hs3 c_f_3
  replace c_f_4 := cell_later hs3 c_f_4
  replace c_f_5 := cell_later hs3 c_f_5
  replace c_f_6 := cell_later hs3 c_f_6
  replace c_f_7 := cell_later hs3 c_f_7
  replace c_f_8 := cell_later hs3 c_f_8
  clear z_e
  have z_e : w.heap.size < _ := World.block_lt_of_cell? _ _ c_e_0
  clear z_f
  have z_f : w.heap.size + 1 < _ := World.block_lt_of_cell? _ _ c_f_0
  have hB3 := below_two hB2 hs3
  clear hB2 hs3
  go_wp2_with fail
  have hR' := hR.below hB3
  refine (few_is HP.out _ _ _ _ (HX1.out.later hB3)).mono ?_
  rintro e w4 ⟨rfl, hb4⟩
  clear hR'
  have hs4 := hb4
  replace c_e_0 := cell_later hs4 c_e_0
  replace c_e_1 := cell_later hs4 c_e_1
  replace c_e_2 := cell_later hs4 c_e_2
  replace c_e_3 := cell_later hs4 c_e_3
  replace c_e_4 := cell_later hs4 c_e_4
  replace c_e_5 := cell_later hs4 c_e_5
  replace c_e_6 := cell_later hs4 c_e_6
  replace c_e_7 := cell_later hs4 c_e_7
  replace c_e_8 := cell_later hs4 c_e_8
  replace c_f_0 := cell_later hs4 c_f_0
  replace c_f_1 := cell_later hs4 c_f_1
  replace c_f_2 := cell_later hs4 c_f_2
  replace c_f_3 := cell_later hs4 c_f_3
  replace c_f_4 := cell_later hs4 c_f_4
  replace c_f_5 := cell_later hs4 c_f_5
  replace c_f_6 := cell_later hs4 c_f_6
  replace c_f_7 := cell_later hs4 c_f_7
  replace c_f_8 := cell_later hs4 c_f_8
  clear z_e
  have z_e : w.heap.size < _ := World.block_lt_of_cell? _ _ c_e_0
  clear z_f
  have z_f : w.heap.size + 1 < _ := World.block_lt_of_cell? _ _ c_f_0
  have hB4 := below_two hB3 hs4
  clear hB3 hs4
  go_wp2_with fail
  have QB : Hid (∀ dd os, Below w.heap.size w (Go.Sort.grow (redrawn w4 dd) os)) := Lib.hid (fun dd os => below_two hB4 (below_regrown w4 dd os))
  have g_c_e_0 := fun dd os => cell_regrown c_e_0 dd os
  have g_c_e_1 := fun dd os => cell_regrown c_e_1 dd os
  have g_c_e_2 := fun dd os => cell_regrown c_e_2 dd os
  have g_c_e_3 := fun dd os => cell_regrown c_e_3 dd os
  have g_c_e_4 := fun dd os => cell_regrown c_e_4 dd os
  have g_c_e_5 := fun dd os => cell_regrown c_e_5 dd os
  have g_c_e_6 := fun dd os => cell_regrown c_e_6 dd os
  have g_c_e_7 := fun dd os => cell_regrown c_e_7 dd os
  have g_c_e_8 := fun dd os => cell_regrown c_e_8 dd os
  have g_c_f_0 := fun dd os => cell_regrown c_f_0 dd os
  have g_c_f_1 := fun dd os => cell_regrown c_f_1 dd os
  have g_c_f_2 := fun dd os => cell_regrown c_f_2 dd os
  have g_c_f_3 := fun dd os => cell_regrown c_f_3 dd os
  have g_c_f_4 := fun dd os => cell_regrown c_f_4 dd os
  have g_c_f_5 := fun dd os => cell_regrown c_f_5 dd os
  have g_c_f_6 := fun dd os => cell_regrown c_f_6 dd os
  have g_c_f_7 := fun dd os => cell_regrown c_f_7 dd os
  have g_c_f_8 := fun dd os => cell_regrown c_f_8 dd os
  have q0 : Hid (∀ dd os, Calls Tryd.prog 23 #[.agg #[.int .i64 k, .slice Pps ps.length Cps, .slice Pts ts.length Cts, .int .i64 b, .int .i64 d, .int .i64 n, .int .i64 e0, .slice Pms ms.length Cms, .string str], .agg #[.int .i64 k1, .slice Pps1 ps1.length Cps1, .slice Pts1 ts1.length Cts1, .int .i64 b1, .int .i64 d1, .int .i64 n1, .int .i64 e01, .slice Pms1 ms1.length Cms1, .string str1]] (Go.Sort.grow (redrawn w4 dd) os) fun e w'' => e = .returned (.bool true) ∧ ∃ p : Regrown, w'' = Go.Sort.grow (redrawn w4 p.d) p.os) := Lib.hid (fun dd os => Calls.regrown_of (esame_is HS.out _ _ _ _ _ _ _ (HX0.out.later (QB.out dd os)) (HX1.out.later (QB.out dd os))))
  have q1 : Hid (∀ dd os, Calls Tryd.prog 24 #[.agg #[.int .i64 k, .slice Pps ps.length Cps, .slice Pts ts.length Cts, .int .i64 b, .int .i64 d, .int .i64 n, .int .i64 e0, .slice Pms ms.length Cms, .string str], .agg #[.int .i64 k1, .slice Pps1 ps1.length Cps1, .slice Pts1 ts1.length Cts1, .int .i64 b1, .int .i64 d1, .int .i64 n1, .int .i64 e01, .slice Pms1 ms1.length Cms1, .string str1]] (Go.Sort.grow (redrawn w4 dd) os) fun e w'' => e = .returned (.bool true) ∧ ∃ p : Regrown, w'' = Go.Sort.grow (redrawn w4 p.d) p.os) := Lib.hid (fun dd os => Calls.regrown_of (refSame_is HS.out _ _ _ _ _ _ _ (HX0.out.later (QB.out dd os)) (HX1.out.later (QB.out dd os))))
  have q2 : Hid (∀ dd os, Calls Tryd.prog 23 #[.agg #[.int .i64 k, .slice Pps ps.length Cps, .slice Pts ts.length Cts, .int .i64 b, .int .i64 d, .int .i64 n, .int .i64 e0, .slice Pms ms.length Cms, .string str], .agg #[.int .i64 k, .slice Pps ps.length Cps, .slice Pts ts.length Cts, .int .i64 b, .int .i64 d, .int .i64 n, .int .i64 e0, .slice Pms ms.length Cms, .string str]] (Go.Sort.grow (redrawn w4 dd) os) fun e w'' => e = .returned (.bool true) ∧ ∃ p : Regrown, w'' = Go.Sort.grow (redrawn w4 p.d) p.os) := Lib.hid (fun dd os => Calls.regrown_of (esame_is (x := ⟨k, ps, ts, b, d, n, e0, ms, str⟩) (y := ⟨k, ps, ts, b, d, n, e0, ms, str⟩) (sameE_self _) _ _ _ _ _ _ _ (HX0.out.later (QB.out dd os)) (HX0.out.later (QB.out dd os))))
  have q3 : Hid (∀ dd os, Calls Tryd.prog 23 #[.agg #[.int .i64 k1, .slice Pps1 ps1.length Cps1, .slice Pts1 ts1.length Cts1, .int .i64 b1, .int .i64 d1, .int .i64 n1, .int .i64 e01, .slice Pms1 ms1.length Cms1, .string str1], .agg #[.int .i64 k, .slice Pps ps.length Cps, .slice Pts ts.length Cts, .int .i64 b, .int .i64 d, .int .i64 n, .int .i64 e0, .slice Pms ms.length Cms, .string str]] (Go.Sort.grow (redrawn w4 dd) os) fun e w'' => e = .returned (.bool true) ∧ ∃ p : Regrown, w'' = Go.Sort.grow (redrawn w4 p.d) p.os) := Lib.hid (fun dd os => Calls.regrown_of (esame_is HT.out _ _ _ _ _ _ _ (HX1.out.later (QB.out dd os)) (HX0.out.later (QB.out dd os))))
  refine wp_region_quiet_below (by kernel_rfl) (by kernel_rfl) ?_
  repeat (go_big_quiet_step (first | (go_at_call 23; with_reducible exact q0.out _ _) | (go_at_call 24; with_reducible exact q1.out _ _) | (go_at_call 23; with_reducible exact q2.out _ _) | (go_at_call 23; with_reducible exact q3.out _ _)))
  refine wpQuiet_nil ?_
  intro _ hw'
  obtain ⟨⟨dq, osq⟩, hw''⟩ := hw'
  subst hw''
  replace c_e_0 := g_c_e_0 dq osq
  clear g_c_e_0
  replace c_e_1 := g_c_e_1 dq osq
  clear g_c_e_1
  replace c_e_2 := g_c_e_2 dq osq
  clear g_c_e_2
  replace c_e_3 := g_c_e_3 dq osq
  clear g_c_e_3
  replace c_e_4 := g_c_e_4 dq osq
  clear g_c_e_4
  replace c_e_5 := g_c_e_5 dq osq
  clear g_c_e_5
  replace c_e_6 := g_c_e_6 dq osq
  clear g_c_e_6
  replace c_e_7 := g_c_e_7 dq osq
  clear g_c_e_7
  replace c_e_8 := g_c_e_8 dq osq
  clear g_c_e_8
  replace c_f_0 := g_c_f_0 dq osq
  clear g_c_f_0
  replace c_f_1 := g_c_f_1 dq osq
  clear g_c_f_1
  replace c_f_2 := g_c_f_2 dq osq
  clear g_c_f_2
  replace c_f_3 := g_c_f_3 dq osq
  clear g_c_f_3
  replace c_f_4 := g_c_f_4 dq osq
  clear g_c_f_4
  replace c_f_5 := g_c_f_5 dq osq
  clear g_c_f_5
  replace c_f_6 := g_c_f_6 dq osq
  clear g_c_f_6
  replace c_f_7 := g_c_f_7 dq osq
  clear g_c_f_7
  replace c_f_8 := g_c_f_8 dq osq
  clear g_c_f_8
  clear q0
  clear q1
  clear q2
  clear q3
  have hB5 := QB.out dq osq
  clear QB hB4 z_e z_f
  generalize Go.Sort.grow (redrawn w4 dq) osq = w5 at *
  have z_e : w.heap.size < _ := World.block_lt_of_cell? _ _ c_e_0
  have z_f : w.heap.size + 1 < _ := World.block_lt_of_cell? _ _ c_f_0
  go_wp2
  go_ret
  exact ⟨rfl, hB5⟩

set_option maxRecDepth 100000 in
set_option maxHeartbeats 40000000 in
theorem sames_false (x : Ev) (y : Ev) (vp vt vm : Value) (up ut um : Value) (w : World) (h0 : EvR w vp vt vm x) (h1 : EvR w up ut um y) (hR : Ready w) (hq : fewE x = true) (hp : fewE y = true) (hs : sameE x y = false) (ht : sameE y x = false):
    Calls Tryd.prog 4 #[evv x vp vt vm, evv y up ut um] w fun ed w' => ed = .returned (.bool true) ∧ Below w.heap.size w w' := by
  have hgR := guardR
  have hgV := guardV
  have heR := eql_rt
  have hsR := eqR_self
  have hsP := eqP_self
  have hgP := guardP
  have heP := eql_pt
  have HQ := Lib.hid hq
  clear hq
  have HP := Lib.hid hp
  clear hp
  have HS := Lib.hid hs
  clear hs
  have HT := Lib.hid ht
  clear ht
  obtain ⟨k, ps, ts, b, d, n, e0, ms, str⟩ := x
  have HX0 := Lib.hid h0
  obtain ⟨Pps, Cps, e1, _⟩ := sl_shape h0.ps
  obtain ⟨Pts, Cts, e2, _⟩ := sl_shape h0.ts
  obtain ⟨Pms, Cms, e3, _⟩ := sl_shape h0.ms
  dsimp only at e1 e2 e3
  subst e1 e2 e3
  clear h0
  obtain ⟨k1, ps1, ts1, b1, d1, n1, e01, ms1, str1⟩ := y
  have HX1 := Lib.hid h1
  obtain ⟨Pps1, Cps1, e1, _⟩ := sl_shape h1.ps
  obtain ⟨Pts1, Cts1, e2, _⟩ := sl_shape h1.ts
  obtain ⟨Pms1, Cms1, e3, _⟩ := sl_shape h1.ms
  dsimp only at e1 e2 e3
  subst e1 e2 e3
  clear h1
  have hB0 : Below w.heap.size w w := Below.refl _ _
  go_enter Tryd.func4, Tryd.ntmps4
  go_wp2_with fail
  have hR' := hR.below ((hB0.alloc hB0.size (.cells #[.int .i64 k, .slice Pps ps.length Cps, .slice Pts ts.length Cts, .int .i64 b, .int .i64 d, .int .i64 n, .int .i64 e0, .slice Pms ms.length Cms, .string str] 28)).alloc (hB0.alloc hB0.size (.cells #[.int .i64 k, .slice Pps ps.length Cps, .slice Pts ts.length Cts, .int .i64 b, .int .i64 d, .int .i64 n, .int .i64 e0, .slice Pms ms.length Cms, .string str] 28)).size (.cells #[.int .i64 k1, .slice Pps1 ps1.length Cps1, .slice Pts1 ts1.length Cts1, .int .i64 b1, .int .i64 d1, .int .i64 n1, .int .i64 e01, .slice Pms1 ms1.length Cms1, .string str1] 28))
  refine (awake_any _ hR').mono ?_
  rintro e w1 ⟨rfl, hb1⟩
  clear hR'
  have hs1 : Below w.heap.size w w1 := Below.trans (by repeat (first | exact Below.refl _ _ | refine Below.alloc ?_ (by simp <;> omega) _)) (hb1.mono (by simp <;> omega))
  have c_e_0 : w1.cell? ⟨w.heap.size, 0, none⟩ = some (.int .i64 k) := (hb1.cell (by simp <;> omega)).trans (by go_simp)
  have c_e_1 : w1.cell? ⟨w.heap.size, 1, none⟩ = some (.slice Pps ps.length Cps) := (hb1.cell (by simp <;> omega)).trans (by go_simp)
  have c_e_2 : w1.cell? ⟨w.heap.size, 2, none⟩ = some (.slice Pts ts.length Cts) := (hb1.cell (by simp <;> omega)).trans (by go_simp)
  have c_e_3 : w1.cell? ⟨w.heap.size, 3, none⟩ = some (.int .i64 b) := (hb1.cell (by simp <;> omega)).trans (by go_simp)
  have c_e_4 : w1.cell? ⟨w.heap.size, 4, none⟩ = some (.int .i64 d) := (hb1.cell (by simp <;> omega)).trans (by go_simp)
  have c_e_5 : w1.cell? ⟨w.heap.size, 5, none⟩ = some (.int .i64 n) := (hb1.cell (by simp <;> omega)).trans (by go_simp)
  have c_e_6 : w1.cell? ⟨w.heap.size, 6, none⟩ = some (.int .i64 e0) := (hb1.cell (by simp <;> omega)).trans (by go_simp)
  have c_e_7 : w1.cell? ⟨w.heap.size, 7, none⟩ = some (.slice Pms ms.length Cms) := (hb1.cell (by simp <;> omega)).trans (by go_simp)
  have c_e_8 : w1.cell? ⟨w.heap.size, 8, none⟩ = some (.string str) := (hb1.cell (by simp <;> omega)).trans (by go_simp)
  have c_f_0 : w1.cell? ⟨w.heap.size + 1, 0, none⟩ = some (.int .i64 k1) := (hb1.cell (by simp <;> omega)).trans (by go_simp)
  have c_f_1 : w1.cell? ⟨w.heap.size + 1, 1, none⟩ = some (.slice Pps1 ps1.length Cps1) := (hb1.cell (by simp <;> omega)).trans (by go_simp)
  have c_f_2 : w1.cell? ⟨w.heap.size + 1, 2, none⟩ = some (.slice Pts1 ts1.length Cts1) := (hb1.cell (by simp <;> omega)).trans (by go_simp)
  have c_f_3 : w1.cell? ⟨w.heap.size + 1, 3, none⟩ = some (.int .i64 b1) := (hb1.cell (by simp <;> omega)).trans (by go_simp)
  have c_f_4 : w1.cell? ⟨w.heap.size + 1, 4, none⟩ = some (.int .i64 d1) := (hb1.cell (by simp <;> omega)).trans (by go_simp)
  have c_f_5 : w1.cell? ⟨w.heap.size + 1, 5, none⟩ = some (.int .i64 n1) := (hb1.cell (by simp <;> omega)).trans (by go_simp)
  have c_f_6 : w1.cell? ⟨w.heap.size + 1, 6, none⟩ = some (.int .i64 e01) := (hb1.cell (by simp <;> omega)).trans (by go_simp)
  have c_f_7 : w1.cell? ⟨w.heap.size + 1, 7, none⟩ = some (.slice Pms1 ms1.length Cms1) := (hb1.cell (by simp <;> omega)).trans (by go_simp)
  have c_f_8 : w1.cell? ⟨w.heap.size + 1, 8, none⟩ = some (.string str1) := (hb1.cell (by simp <;> omega)).trans (by go_simp)
  have z_e : w.heap.size < _ := World.block_lt_of_cell? _ _ c_e_0
  have z_f : w.heap.size + 1 < _ := World.block_lt_of_cell? _ _ c_f_0
  have hB1 := below_two hB0 hs1
  clear hB0 hs1 hb1
  go_wp2_with fail
  have hs2 : Below w1.heap.size w1 w1 := by repeat (first | exact Below.refl _ _ | refine Below.alloc ?_ (by simp <;> omega) _)
  replace c_e_0 := cell_later hs2 c_e_0
  replace c_e_1 := cell_later hs2 c_e_1
  replace c_e_2 := cell_later hs2 c_e_2
  replace c_e_3 := cell_later hs2 c_e_3
  replace c_e_4 := cell_later hs2 c_e_4
  replace c_e_5 := cell_later hs2 c_e_5
  replace c_e_6 := cell_later hs2 c_e_6
  replace c_e_7 := cell_later hs2 c_e_7
  replace c_e_8 := cell_later hs2 c_e_8
  replace c_f_0 := cell_later hs2 c_f_0
  replace c_f_1 := cell_later hs2 c_f_1
  replace c_f_2 := cell_later hs2 c_f_2
  replace c_f_3 := cell_later hs2 c_f_3
  replace c_f_4 := cell_later hs2 c_f_4
  replace c_f_5 := cell_later hs2 c_f_5
  replace c_f_6 := cell_later hs2 c_f_6
  replace c_f_7 := cell_later hs2 c_f_7
  replace c_f_8 := cell_later hs2 c_f_8
  have hB2 := below_two hB1 hs2
  clear hB1 hs2
  have y2_e := z_e
  have y2_f := z_f
  generalize w1 = w2 at *
  clear z_e
  have z_e : w.heap.size < _ := World.block_lt_of_cell? _ _ c_e_0
  clear z_f
  have z_f : w.heap.size + 1 < _ := World.block_lt_of_cell? _ _ c_f_0
  go_wp2_with fail
  have hR' := hR.below hB2
  refine (few_is HQ.out _ _ _ _ (HX0.out.later hB2)).mono ?_
  rintro e w3 ⟨rfl, hb3⟩
  clear hR'
  have hs3 := hb3
  replace c_e_0 := cell_later hs3 c_e_0
  replace c_e_1 := cell_later hs3 c_e_1
  replace c_e_2 := cell_later hs3 c_e_2
  replace c_e_3 := cell_later hs3 c_e_3
  replace c_e_4 := cell_later hs3 c_e_4
  replace c_e_5 := cell_later hs3 c_e_5
  replace c_e_6 := cell_later hs3 c_e_6
  replace c_e_7 := cell_later hs3 c_e_7
  replace c_e_8 := cell_later hs3 c_e_8
  replace c_f_0 := cell_later hs3 c_f_0
  replace c_f_1 := cell_later hs3 c_f_1
  replace c_f_2 := cell_later hs3 c_f_2
  replace c_f_3 := cell_later hs3 c_f_3
  replace c_f_4 := cell_later hs3 c_f_4
  replace c_f_5 := cell_later hs3 c_f_5
  replace c_f_6 := cell_later hs3 c_f_6
  replace c_f_7 := cell_later hs3 c_f_7
  replace c_f_8 := cell_later hs3 c_f_8
  clear z_e
  have z_e : w.heap.size < _ := World.block_lt_of_cell? _ _ c_e_0
  clear z_f
  have z_f : w.heap.size + 1 < _ := World.block_lt_of_cell? _ _ c_f_0
  have hB3 := below_two hB2 hs3
  clear hB2 hs3
  go_wp2_with fail
  have hR' := hR.below hB3
  refine (few_is HP.out _ _ _ _ (HX1.out.later hB3)).mono ?_
  rintro e w4 ⟨rfl, hb4⟩
  clear hR'
  have hs4 := hb4
  replace c_e_0 := cell_later hs4 c_e_0
  replace c_e_1 := cell_later hs4 c_e_1
  replace c_e_2 := cell_later hs4 c_e_2
  replace c_e_3 := cell_later hs4 c_e_3
  replace c_e_4 := cell_later hs4 c_e_4
  replace c_e_5 := cell_later hs4 c_e_5
  replace c_e_6 := cell_later hs4 c_e_6
  replace c_e_7 := cell_later hs4 c_e_7
  replace c_e_8 := cell_later hs4 c_e_8
  replace c_f_0 := cell_later hs4 c_f_0
  replace c_f_1 := cell_later hs4 c_f_1
  replace c_f_2 := cell_later hs4 c_f_2
  replace c_f_3 := cell_later hs4 c_f_3
  replace c_f_4 := cell_later hs4 c_f_4
  replace c_f_5 := cell_later hs4 c_f_5
  replace c_f_6 := cell_later hs4 c_f_6
  replace c_f_7 := cell_later hs4 c_f_7
  replace c_f_8 := cell_later hs4 c_f_8
  clear z_e
  have z_e : w.heap.size < _ := World.block_lt_of_cell? _ _ c_e_0
  clear z_f
  have z_f : w.heap.size + 1 < _ := World.block_lt_of_cell? _ _ c_f_0
  have hB4 := below_two hB3 hs4
  clear hB3 hs4
  go_wp2_with fail
  have QB : Hid (∀ dd os, Below w.heap.size w (Go.Sort.grow (redrawn w4 dd) os)) := Lib.hid (fun dd os => below_two hB4 (below_regrown w4 dd os))
  have g_c_e_0 := fun dd os => cell_regrown c_e_0 dd os
  have g_c_e_1 := fun dd os => cell_regrown c_e_1 dd os
  have g_c_e_2 := fun dd os => cell_regrown c_e_2 dd os
  have g_c_e_3 := fun dd os => cell_regrown c_e_3 dd os
  have g_c_e_4 := fun dd os => cell_regrown c_e_4 dd os
  have g_c_e_5 := fun dd os => cell_regrown c_e_5 dd os
  have g_c_e_6 := fun dd os => cell_regrown c_e_6 dd os
  have g_c_e_7 := fun dd os => cell_regrown c_e_7 dd os
  have g_c_e_8 := fun dd os => cell_regrown c_e_8 dd os
  have g_c_f_0 := fun dd os => cell_regrown c_f_0 dd os
  have g_c_f_1 := fun dd os => cell_regrown c_f_1 dd os
  have g_c_f_2 := fun dd os => cell_regrown c_f_2 dd os
  have g_c_f_3 := fun dd os => cell_regrown c_f_3 dd os
  have g_c_f_4 := fun dd os => cell_regrown c_f_4 dd os
  have g_c_f_5 := fun dd os => cell_regrown c_f_5 dd os
  have g_c_f_6 := fun dd os => cell_regrown c_f_6 dd os
  have g_c_f_7 := fun dd os => cell_regrown c_f_7 dd os
  have g_c_f_8 := fun dd os => cell_regrown c_f_8 dd os
  have q0 : Hid (∀ dd os, Calls Tryd.prog 23 #[.agg #[.int .i64 k, .slice Pps ps.length Cps, .slice Pts ts.length Cts, .int .i64 b, .int .i64 d, .int .i64 n, .int .i64 e0, .slice Pms ms.length Cms, .string str], .agg #[.int .i64 k1, .slice Pps1 ps1.length Cps1, .slice Pts1 ts1.length Cts1, .int .i64 b1, .int .i64 d1, .int .i64 n1, .int .i64 e01, .slice Pms1 ms1.length Cms1, .string str1]] (Go.Sort.grow (redrawn w4 dd) os) fun e w'' => e = .returned (.bool false) ∧ ∃ p : Regrown, w'' = Go.Sort.grow (redrawn w4 p.d) p.os) := Lib.hid (fun dd os => Calls.regrown_of (esame_is HS.out _ _ _ _ _ _ _ (HX0.out.later (QB.out dd os)) (HX1.out.later (QB.out dd os))))
  have q1 : Hid (∀ dd os, Calls Tryd.prog 24 #[.agg #[.int .i64 k, .slice Pps ps.length Cps, .slice Pts ts.length Cts, .int .i64 b, .int .i64 d, .int .i64 n, .int .i64 e0, .slice Pms ms.length Cms, .string str], .agg #[.int .i64 k1, .slice Pps1 ps1.length Cps1, .slice Pts1 ts1.length Cts1, .int .i64 b1, .int .i64 d1, .int .i64 n1, .int .i64 e01, .slice Pms1 ms1.length Cms1, .string str1]] (Go.Sort.grow (redrawn w4 dd) os) fun e w'' => e = .returned (.bool false) ∧ ∃ p : Regrown, w'' = Go.Sort.grow (redrawn w4 p.d) p.os) := Lib.hid (fun dd os => Calls.regrown_of (refSame_is HS.out _ _ _ _ _ _ _ (HX0.out.later (QB.out dd os)) (HX1.out.later (QB.out dd os))))
  have q2 : Hid (∀ dd os, Calls Tryd.prog 23 #[.agg #[.int .i64 k, .slice Pps ps.length Cps, .slice Pts ts.length Cts, .int .i64 b, .int .i64 d, .int .i64 n, .int .i64 e0, .slice Pms ms.length Cms, .string str], .agg #[.int .i64 k, .slice Pps ps.length Cps, .slice Pts ts.length Cts, .int .i64 b, .int .i64 d, .int .i64 n, .int .i64 e0, .slice Pms ms.length Cms, .string str]] (Go.Sort.grow (redrawn w4 dd) os) fun e w'' => e = .returned (.bool true) ∧ ∃ p : Regrown, w'' = Go.Sort.grow (redrawn w4 p.d) p.os) := Lib.hid (fun dd os => Calls.regrown_of (esame_is (x := ⟨k, ps, ts, b, d, n, e0, ms, str⟩) (y := ⟨k, ps, ts, b, d, n, e0, ms, str⟩) (sameE_self _) _ _ _ _ _ _ _ (HX0.out.later (QB.out dd os)) (HX0.out.later (QB.out dd os))))
  have q3 : Hid (∀ dd os, Calls Tryd.prog 23 #[.agg #[.int .i64 k1, .slice Pps1 ps1.length Cps1, .slice Pts1 ts1.length Cts1, .int .i64 b1, .int .i64 d1, .int .i64 n1, .int .i64 e01, .slice Pms1 ms1.length Cms1, .string str1], .agg #[.int .i64 k, .slice Pps ps.length Cps, .slice Pts ts.length Cts, .int .i64 b, .int .i64 d, .int .i64 n, .int .i64 e0, .slice Pms ms.length Cms, .string str]] (Go.Sort.grow (redrawn w4 dd) os) fun e w'' => e = .returned (.bool false) ∧ ∃ p : Regrown, w'' = Go.Sort.grow (redrawn w4 p.d) p.os) := Lib.hid (fun dd os => Calls.regrown_of (esame_is HT.out _ _ _ _ _ _ _ (HX1.out.later (QB.out dd os)) (HX0.out.later (QB.out dd os))))
  refine wp_region_quiet_below (by kernel_rfl) (by kernel_rfl) ?_
  repeat (go_big_quiet_step (first | (go_at_call 23; with_reducible exact q0.out _ _) | (go_at_call 24; with_reducible exact q1.out _ _) | (go_at_call 23; with_reducible exact q2.out _ _) | (go_at_call 23; with_reducible exact q3.out _ _)))
  refine wpQuiet_nil ?_
  intro _ hw'
  obtain ⟨⟨dq, osq⟩, hw''⟩ := hw'
  subst hw''
  replace c_e_0 := g_c_e_0 dq osq
  clear g_c_e_0
  replace c_e_1 := g_c_e_1 dq osq
  clear g_c_e_1
  replace c_e_2 := g_c_e_2 dq osq
  clear g_c_e_2
  replace c_e_3 := g_c_e_3 dq osq
  clear g_c_e_3
  replace c_e_4 := g_c_e_4 dq osq
  clear g_c_e_4
  replace c_e_5 := g_c_e_5 dq osq
  clear g_c_e_5
  replace c_e_6 := g_c_e_6 dq osq
  clear g_c_e_6
  replace c_e_7 := g_c_e_7 dq osq
  clear g_c_e_7
  replace c_e_8 := g_c_e_8 dq osq
  clear g_c_e_8
  replace c_f_0 := g_c_f_0 dq osq
  clear g_c_f_0
  replace c_f_1 := g_c_f_1 dq osq
  clear g_c_f_1
  replace c_f_2 := g_c_f_2 dq osq
  clear g_c_f_2
  replace c_f_3 := g_c_f_3 dq osq
  clear g_c_f_3
  replace c_f_4 := g_c_f_4 dq osq
  clear g_c_f_4
  replace c_f_5 := g_c_f_5 dq osq
  clear g_c_f_5
  replace c_f_6 := g_c_f_6 dq osq
  clear g_c_f_6
  replace c_f_7 := g_c_f_7 dq osq
  clear g_c_f_7
  replace c_f_8 := g_c_f_8 dq osq
  clear g_c_f_8
  clear q0
  clear q1
  clear q2
  clear q3
  have hB5 := QB.out dq osq
  clear QB hB4 z_e z_f
  generalize Go.Sort.grow (redrawn w4 dq) osq = w5 at *
  have z_e : w.heap.size < _ := World.block_lt_of_cell? _ _ c_e_0
  have z_f : w.heap.size + 1 < _ := World.block_lt_of_cell? _ _ c_f_0
  go_wp2
  go_ret
  exact ⟨rfl, hB5⟩

theorem sames_any (x y : Ev) (vp vt vm up ut um : Value) (w : World) (h : EvR w vp vt vm x) (h2 : EvR w up ut um y) (hR : Ready w) : Calls Tryd.prog 4 #[evv x vp vt vm, evv y up ut um] w fun ed w' => ed = .returned (.bool true) ∧ Below w.heap.size w w' := by
  cases hq : fewE x
  · exact sames_a x y vp vt vm up ut um w h h2 hR hq
  cases hp : fewE y
  · exact sames_b x y vp vt vm up ut um w h h2 hR hq hp
  cases hs : sameE x y
  · exact sames_false x y vp vt vm up ut um w h h2 hR hq hp hs (by rw [sameE_comm, hs])
  · exact sames_true x y vp vt vm up ut um w h h2 hR hq hp hs (by rw [sameE_comm, hs])
end Go.Proofs.YtoiankbopjaamaaDoor
