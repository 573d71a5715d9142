/-
  EventLengths answers true: the law's walk.
-/
import Derived.Test.YtoiankbopjaamaaDoorEvLaw
namespace Go.Proofs.YtoiankbopjaamaaDoor
open Go.RowKit
open Evt (P3 Ev)

set_option maxRecDepth 100000 in
set_option maxHeartbeats 40000000 in
theorem lengths_few (x : Ev) (vp vt vm : Value) (B D N E : Int) (w : World) (h0 : EvR w vp vt vm x) (hR : Ready w) (hq : fewE x = false):
    Calls Tryd.prog 13 #[evv x vp vt vm, vl B D N E] w fun ed w' => ed = .returned (.bool true) ∧ Below w.heap.size w w' := by
  have hgR := guardR
  have hgV := guardV
  have heR := eql_rt
  have hsR := eqR_self
  have hsP := eqP_self
  have hgP := guardP
  have heP := eql_pt
  have HQ := Lib.hid hq
  clear hq
  obtain ⟨k, ps, ts, b, d, n, e0, ms, str⟩ := x
  have HX0 := Lib.hid h0
  obtain ⟨Pps, Cps, e1, _⟩ := sl_shape h0.ps
  obtain ⟨Pts, Cts, e2, _⟩ := sl_shape h0.ts
  obtain ⟨Pms, Cms, e3, _⟩ := sl_shape h0.ms
  dsimp only at e1 e2 e3
  subst e1 e2 e3
  clear h0
  have hB0 : Below w.heap.size w w := Below.refl _ _
  go_enter Tryd.func13, Tryd.ntmps13
  go_wp2_with fail
  have hR' := hR.below ((hB0.alloc hB0.size (.cells #[.int .i64 k, .slice Pps ps.length Cps, .slice Pts ts.length Cts, .int .i64 b, .int .i64 d, .int .i64 n, .int .i64 e0, .slice Pms ms.length Cms, .string str] 28)).alloc (hB0.alloc hB0.size (.cells #[.int .i64 k, .slice Pps ps.length Cps, .slice Pts ts.length Cts, .int .i64 b, .int .i64 d, .int .i64 n, .int .i64 e0, .slice Pms ms.length Cms, .string str] 28)).size (.cells #[.int .i64 B, .int .i64 D, .int .i64 N, .int .i64 E] 25))
  refine (awake_any _ hR').mono ?_
  rintro e w1 ⟨rfl, hb1⟩
  clear hR'
  have hs1 : Below w.heap.size w w1 := Below.trans (by repeat (first | exact Below.refl _ _ | refine Below.alloc ?_ (by simp <;> omega) _)) (hb1.mono (by simp <;> omega))
  have c_e_0 : w1.cell? ⟨w.heap.size, 0, none⟩ = some (.int .i64 k) := (hb1.cell (by simp <;> omega)).trans (by go_simp)
  have f_e_0 : w1.frozen? ⟨w.heap.size, 0, none⟩ = false := (hb1.frozen (by simp <;> omega)).trans (by go_simp)
  have c_e_1 : w1.cell? ⟨w.heap.size, 1, none⟩ = some (.slice Pps ps.length Cps) := (hb1.cell (by simp <;> omega)).trans (by go_simp)
  have f_e_1 : w1.frozen? ⟨w.heap.size, 1, none⟩ = false := (hb1.frozen (by simp <;> omega)).trans (by go_simp)
  have c_e_2 : w1.cell? ⟨w.heap.size, 2, none⟩ = some (.slice Pts ts.length Cts) := (hb1.cell (by simp <;> omega)).trans (by go_simp)
  have f_e_2 : w1.frozen? ⟨w.heap.size, 2, none⟩ = false := (hb1.frozen (by simp <;> omega)).trans (by go_simp)
  have c_e_3 : w1.cell? ⟨w.heap.size, 3, none⟩ = some (.int .i64 b) := (hb1.cell (by simp <;> omega)).trans (by go_simp)
  have f_e_3 : w1.frozen? ⟨w.heap.size, 3, none⟩ = false := (hb1.frozen (by simp <;> omega)).trans (by go_simp)
  have c_e_4 : w1.cell? ⟨w.heap.size, 4, none⟩ = some (.int .i64 d) := (hb1.cell (by simp <;> omega)).trans (by go_simp)
  have f_e_4 : w1.frozen? ⟨w.heap.size, 4, none⟩ = false := (hb1.frozen (by simp <;> omega)).trans (by go_simp)
  have c_e_5 : w1.cell? ⟨w.heap.size, 5, none⟩ = some (.int .i64 n) := (hb1.cell (by simp <;> omega)).trans (by go_simp)
  have f_e_5 : w1.frozen? ⟨w.heap.size, 5, none⟩ = false := (hb1.frozen (by simp <;> omega)).trans (by go_simp)
  have c_e_6 : w1.cell? ⟨w.heap.size, 6, none⟩ = some (.int .i64 e0) := (hb1.cell (by simp <;> omega)).trans (by go_simp)
  have f_e_6 : w1.frozen? ⟨w.heap.size, 6, none⟩ = false := (hb1.frozen (by simp <;> omega)).trans (by go_simp)
  have c_e_7 : w1.cell? ⟨w.heap.size, 7, none⟩ = some (.slice Pms ms.length Cms) := (hb1.cell (by simp <;> omega)).trans (by go_simp)
  have f_e_7 : w1.frozen? ⟨w.heap.size, 7, none⟩ = false := (hb1.frozen (by simp <;> omega)).trans (by go_simp)
  have c_e_8 : w1.cell? ⟨w.heap.size, 8, none⟩ = some (.string str) := (hb1.cell (by simp <;> omega)).trans (by go_simp)
  have f_e_8 : w1.frozen? ⟨w.heap.size, 8, none⟩ = false := (hb1.frozen (by simp <;> omega)).trans (by go_simp)
  have c_v_0 : w1.cell? ⟨w.heap.size + 1, 0, none⟩ = some (.int .i64 B) := (hb1.cell (by simp <;> omega)).trans (by go_simp)
  have c_v_1 : w1.cell? ⟨w.heap.size + 1, 1, none⟩ = some (.int .i64 D) := (hb1.cell (by simp <;> omega)).trans (by go_simp)
  have c_v_2 : w1.cell? ⟨w.heap.size + 1, 2, none⟩ = some (.int .i64 N) := (hb1.cell (by simp <;> omega)).trans (by go_simp)
  have c_v_3 : w1.cell? ⟨w.heap.size + 1, 3, none⟩ = some (.int .i64 E) := (hb1.cell (by simp <;> omega)).trans (by go_simp)
  have z_e : w.heap.size < _ := World.block_lt_of_cell? _ _ c_e_0
  have z_v : w.heap.size + 1 < _ := World.block_lt_of_cell? _ _ c_v_0
  have hB1 := below_two hB0 hs1
  clear hB0 hs1 hb1
  go_wp2_with fail
  have hs2 : Below w1.heap.size w1 w1 := by repeat (first | exact Below.refl _ _ | refine Below.alloc ?_ (by simp <;> omega) _)
  replace f_e_0 := frozen_later hs2 c_e_0 f_e_0
  replace c_e_0 := cell_later hs2 c_e_0
  replace f_e_1 := frozen_later hs2 c_e_1 f_e_1
  replace c_e_1 := cell_later hs2 c_e_1
  replace f_e_2 := frozen_later hs2 c_e_2 f_e_2
  replace c_e_2 := cell_later hs2 c_e_2
  replace f_e_3 := frozen_later hs2 c_e_3 f_e_3
  replace c_e_3 := cell_later hs2 c_e_3
  replace f_e_4 := frozen_later hs2 c_e_4 f_e_4
  replace c_e_4 := cell_later hs2 c_e_4
  replace f_e_5 := frozen_later hs2 c_e_5 f_e_5
  replace c_e_5 := cell_later hs2 c_e_5
  replace f_e_6 := frozen_later hs2 c_e_6 f_e_6
  replace c_e_6 := cell_later hs2 c_e_6
  replace f_e_7 := frozen_later hs2 c_e_7 f_e_7
  replace c_e_7 := cell_later hs2 c_e_7
  replace f_e_8 := frozen_later hs2 c_e_8 f_e_8
  replace c_e_8 := cell_later hs2 c_e_8
  replace c_v_0 := cell_later hs2 c_v_0
  replace c_v_1 := cell_later hs2 c_v_1
  replace c_v_2 := cell_later hs2 c_v_2
  replace c_v_3 := cell_later hs2 c_v_3
  have hB2 := below_two hB1 hs2
  clear hB1 hs2
  have y2_e := z_e
  have y2_v := z_v
  generalize w1 = w2 at *
  clear z_e
  have z_e : w.heap.size < _ := World.block_lt_of_cell? _ _ c_e_0
  clear z_v
  have z_v : w.heap.size + 1 < _ := World.block_lt_of_cell? _ _ c_v_0
  go_wp2_with fail
  have hR' := hR.below hB2
  refine (few_is HQ.out _ _ _ _ (HX0.out.later hB2)).mono ?_
  rintro e w3 ⟨rfl, hb3⟩
  clear hR'
  have hs3 := hb3
  replace f_e_0 := frozen_later hs3 c_e_0 f_e_0
  replace c_e_0 := cell_later hs3 c_e_0
  replace f_e_1 := frozen_later hs3 c_e_1 f_e_1
  replace c_e_1 := cell_later hs3 c_e_1
  replace f_e_2 := frozen_later hs3 c_e_2 f_e_2
  replace c_e_2 := cell_later hs3 c_e_2
  replace f_e_3 := frozen_later hs3 c_e_3 f_e_3
  replace c_e_3 := cell_later hs3 c_e_3
  replace f_e_4 := frozen_later hs3 c_e_4 f_e_4
  replace c_e_4 := cell_later hs3 c_e_4
  replace f_e_5 := frozen_later hs3 c_e_5 f_e_5
  replace c_e_5 := cell_later hs3 c_e_5
  replace f_e_6 := frozen_later hs3 c_e_6 f_e_6
  replace c_e_6 := cell_later hs3 c_e_6
  replace f_e_7 := frozen_later hs3 c_e_7 f_e_7
  replace c_e_7 := cell_later hs3 c_e_7
  replace f_e_8 := frozen_later hs3 c_e_8 f_e_8
  replace c_e_8 := cell_later hs3 c_e_8
  replace c_v_0 := cell_later hs3 c_v_0
  replace c_v_1 := cell_later hs3 c_v_1
  replace c_v_2 := cell_later hs3 c_v_2
  replace c_v_3 := cell_later hs3 c_v_3
  clear z_e
  have z_e : w.heap.size < _ := World.block_lt_of_cell? _ _ c_e_0
  clear z_v
  have z_v : w.heap.size + 1 < _ := World.block_lt_of_cell? _ _ c_v_0
  have hB3 := below_two hB2 hs3
  clear hB2 hs3
  go_wp2
  go_ret
  exact ⟨rfl, hB3⟩

set_option maxRecDepth 100000 in
set_option maxHeartbeats 40000000 in
theorem lengths_wrong (x : Ev) (vp vt vm : Value) (B D N E : Int) (w : World) (h0 : EvR w vp vt vm x) (hR : Ready w) (hq : fewE x = true) (hr : Evt.right x = false):
    Calls Tryd.prog 13 #[evv x vp vt vm, vl B D N E] w fun ed w' => ed = .returned (.bool true) ∧ Below w.heap.size w w' := by
  have hgR := guardR
  have hgV := guardV
  have heR := eql_rt
  have hsR := eqR_self
  have hsP := eqP_self
  have hgP := guardP
  have heP := eql_pt
  have HQ := Lib.hid hq
  clear hq
  have HR := Lib.hid hr
  clear hr
  obtain ⟨k, ps, ts, b, d, n, e0, ms, str⟩ := x
  have HX0 := Lib.hid h0
  obtain ⟨Pps, Cps, e1, _⟩ := sl_shape h0.ps
  obtain ⟨Pts, Cts, e2, _⟩ := sl_shape h0.ts
  obtain ⟨Pms, Cms, e3, _⟩ := sl_shape h0.ms
  dsimp only at e1 e2 e3
  subst e1 e2 e3
  clear h0
  have hB0 : Below w.heap.size w w := Below.refl _ _
  go_enter Tryd.func13, Tryd.ntmps13
  go_wp2_with fail
  have hR' := hR.below ((hB0.alloc hB0.size (.cells #[.int .i64 k, .slice Pps ps.length Cps, .slice Pts ts.length Cts, .int .i64 b, .int .i64 d, .int .i64 n, .int .i64 e0, .slice Pms ms.length Cms, .string str] 28)).alloc (hB0.alloc hB0.size (.cells #[.int .i64 k, .slice Pps ps.length Cps, .slice Pts ts.length Cts, .int .i64 b, .int .i64 d, .int .i64 n, .int .i64 e0, .slice Pms ms.length Cms, .string str] 28)).size (.cells #[.int .i64 B, .int .i64 D, .int .i64 N, .int .i64 E] 25))
  refine (awake_any _ hR').mono ?_
  rintro e w1 ⟨rfl, hb1⟩
  clear hR'
  have hs1 : Below w.heap.size w w1 := Below.trans (by repeat (first | exact Below.refl _ _ | refine Below.alloc ?_ (by simp <;> omega) _)) (hb1.mono (by simp <;> omega))
  have c_e_0 : w1.cell? ⟨w.heap.size, 0, none⟩ = some (.int .i64 k) := (hb1.cell (by simp <;> omega)).trans (by go_simp)
  have f_e_0 : w1.frozen? ⟨w.heap.size, 0, none⟩ = false := (hb1.frozen (by simp <;> omega)).trans (by go_simp)
  have c_e_1 : w1.cell? ⟨w.heap.size, 1, none⟩ = some (.slice Pps ps.length Cps) := (hb1.cell (by simp <;> omega)).trans (by go_simp)
  have f_e_1 : w1.frozen? ⟨w.heap.size, 1, none⟩ = false := (hb1.frozen (by simp <;> omega)).trans (by go_simp)
  have c_e_2 : w1.cell? ⟨w.heap.size, 2, none⟩ = some (.slice Pts ts.length Cts) := (hb1.cell (by simp <;> omega)).trans (by go_simp)
  have f_e_2 : w1.frozen? ⟨w.heap.size, 2, none⟩ = false := (hb1.frozen (by simp <;> omega)).trans (by go_simp)
  have c_e_3 : w1.cell? ⟨w.heap.size, 3, none⟩ = some (.int .i64 b) := (hb1.cell (by simp <;> omega)).trans (by go_simp)
  have f_e_3 : w1.frozen? ⟨w.heap.size, 3, none⟩ = false := (hb1.frozen (by simp <;> omega)).trans (by go_simp)
  have c_e_4 : w1.cell? ⟨w.heap.size, 4, none⟩ = some (.int .i64 d) := (hb1.cell (by simp <;> omega)).trans (by go_simp)
  have f_e_4 : w1.frozen? ⟨w.heap.size, 4, none⟩ = false := (hb1.frozen (by simp <;> omega)).trans (by go_simp)
  have c_e_5 : w1.cell? ⟨w.heap.size, 5, none⟩ = some (.int .i64 n) := (hb1.cell (by simp <;> omega)).trans (by go_simp)
  have f_e_5 : w1.frozen? ⟨w.heap.size, 5, none⟩ = false := (hb1.frozen (by simp <;> omega)).trans (by go_simp)
  have c_e_6 : w1.cell? ⟨w.heap.size, 6, none⟩ = some (.int .i64 e0) := (hb1.cell (by simp <;> omega)).trans (by go_simp)
  have f_e_6 : w1.frozen? ⟨w.heap.size, 6, none⟩ = false := (hb1.frozen (by simp <;> omega)).trans (by go_simp)
  have c_e_7 : w1.cell? ⟨w.heap.size, 7, none⟩ = some (.slice Pms ms.length Cms) := (hb1.cell (by simp <;> omega)).trans (by go_simp)
  have f_e_7 : w1.frozen? ⟨w.heap.size, 7, none⟩ = false := (hb1.frozen (by simp <;> omega)).trans (by go_simp)
  have c_e_8 : w1.cell? ⟨w.heap.size, 8, none⟩ = some (.string str) := (hb1.cell (by simp <;> omega)).trans (by go_simp)
  have f_e_8 : w1.frozen? ⟨w.heap.size, 8, none⟩ = false := (hb1.frozen (by simp <;> omega)).trans (by go_simp)
  have c_v_0 : w1.cell? ⟨w.heap.size + 1, 0, none⟩ = some (.int .i64 B) := (hb1.cell (by simp <;> omega)).trans (by go_simp)
  have c_v_1 : w1.cell? ⟨w.heap.size + 1, 1, none⟩ = some (.int .i64 D) := (hb1.cell (by simp <;> omega)).trans (by go_simp)
  have c_v_2 : w1.cell? ⟨w.heap.size + 1, 2, none⟩ = some (.int .i64 N) := (hb1.cell (by simp <;> omega)).trans (by go_simp)
  have c_v_3 : w1.cell? ⟨w.heap.size + 1, 3, none⟩ = some (.int .i64 E) := (hb1.cell (by simp <;> omega)).trans (by go_simp)
  have z_e : w.heap.size < _ := World.block_lt_of_cell? _ _ c_e_0
  have z_v : w.heap.size + 1 < _ := World.block_lt_of_cell? _ _ c_v_0
  have hB1 := below_two hB0 hs1
  clear hB0 hs1 hb1
  go_wp2_with fail
  have hs2 : Below w1.heap.size w1 w1 := by repeat (first | exact Below.refl _ _ | refine Below.alloc ?_ (by simp <;> omega) _)
  replace f_e_0 := frozen_later hs2 c_e_0 f_e_0
  replace c_e_0 := cell_later hs2 c_e_0
  replace f_e_1 := frozen_later hs2 c_e_1 f_e_1
  replace c_e_1 := cell_later hs2 c_e_1
  replace f_e_2 := frozen_later hs2 c_e_2 f_e_2
  replace c_e_2 := cell_later hs2 c_e_2
  replace f_e_3 := frozen_later hs2 c_e_3 f_e_3
  replace c_e_3 := cell_later hs2 c_e_3
  replace f_e_4 := frozen_later hs2 c_e_4 f_e_4
  replace c_e_4 := cell_later hs2 c_e_4
  replace f_e_5 := frozen_later hs2 c_e_5 f_e_5
  replace c_e_5 := cell_later hs2 c_e_5
  replace f_e_6 := frozen_later hs2 c_e_6 f_e_6
  replace c_e_6 := cell_later hs2 c_e_6
  replace f_e_7 := frozen_later hs2 c_e_7 f_e_7
  replace c_e_7 := cell_later hs2 c_e_7
  replace f_e_8 := frozen_later hs2 c_e_8 f_e_8
  replace c_e_8 := cell_later hs2 c_e_8
  replace c_v_0 := cell_later hs2 c_v_0
  replace c_v_1 := cell_later hs2 c_v_1
  replace c_v_2 := cell_later hs2 c_v_2
  replace c_v_3 := cell_later hs2 c_v_3
  have hB2 := below_two hB1 hs2
  clear hB1 hs2
  have y2_e := z_e
  have y2_v := z_v
  generalize w1 = w2 at *
  clear z_e
  have z_e : w.heap.size < _ := World.block_lt_of_cell? _ _ c_e_0
  clear z_v
  have z_v : w.heap.size + 1 < _ := World.block_lt_of_cell? _ _ c_v_0
  go_wp2_with fail
  have hR' := hR.below hB2
  refine (few_is HQ.out _ _ _ _ (HX0.out.later hB2)).mono ?_
  rintro e w3 ⟨rfl, hb3⟩
  clear hR'
  have hs3 := hb3
  replace f_e_0 := frozen_later hs3 c_e_0 f_e_0
  replace c_e_0 := cell_later hs3 c_e_0
  replace f_e_1 := frozen_later hs3 c_e_1 f_e_1
  replace c_e_1 := cell_later hs3 c_e_1
  replace f_e_2 := frozen_later hs3 c_e_2 f_e_2
  replace c_e_2 := cell_later hs3 c_e_2
  replace f_e_3 := frozen_later hs3 c_e_3 f_e_3
  replace c_e_3 := cell_later hs3 c_e_3
  replace f_e_4 := frozen_later hs3 c_e_4 f_e_4
  replace c_e_4 := cell_later hs3 c_e_4
  replace f_e_5 := frozen_later hs3 c_e_5 f_e_5
  replace c_e_5 := cell_later hs3 c_e_5
  replace f_e_6 := frozen_later hs3 c_e_6 f_e_6
  replace c_e_6 := cell_later hs3 c_e_6
  replace f_e_7 := frozen_later hs3 c_e_7 f_e_7
  replace c_e_7 := cell_later hs3 c_e_7
  replace f_e_8 := frozen_later hs3 c_e_8 f_e_8
  replace c_e_8 := cell_later hs3 c_e_8
  replace c_v_0 := cell_later hs3 c_v_0
  replace c_v_1 := cell_later hs3 c_v_1
  replace c_v_2 := cell_later hs3 c_v_2
  replace c_v_3 := cell_later hs3 c_v_3
  clear z_e
  have z_e : w.heap.size < _ := World.block_lt_of_cell? _ _ c_e_0
  clear z_v
  have z_v : w.heap.size + 1 < _ := World.block_lt_of_cell? _ _ c_v_0
  have hB3 := below_two hB2 hs3
  clear hB2 hs3
  go_wp2_with fail
  have hR' := hR.below hB3
  refine (eright_is HR.out _ _ _ _ (HX0.out.later hB3) hR').mono ?_
  rintro e w4 ⟨rfl, hb4⟩
  clear hR'
  have hs4 := hb4
  replace f_e_0 := frozen_later hs4 c_e_0 f_e_0
  replace c_e_0 := cell_later hs4 c_e_0
  replace f_e_1 := frozen_later hs4 c_e_1 f_e_1
  replace c_e_1 := cell_later hs4 c_e_1
  replace f_e_2 := frozen_later hs4 c_e_2 f_e_2
  replace c_e_2 := cell_later hs4 c_e_2
  replace f_e_3 := frozen_later hs4 c_e_3 f_e_3
  replace c_e_3 := cell_later hs4 c_e_3
  replace f_e_4 := frozen_later hs4 c_e_4 f_e_4
  replace c_e_4 := cell_later hs4 c_e_4
  replace f_e_5 := frozen_later hs4 c_e_5 f_e_5
  replace c_e_5 := cell_later hs4 c_e_5
  replace f_e_6 := frozen_later hs4 c_e_6 f_e_6
  replace c_e_6 := cell_later hs4 c_e_6
  replace f_e_7 := frozen_later hs4 c_e_7 f_e_7
  replace c_e_7 := cell_later hs4 c_e_7
  replace f_e_8 := frozen_later hs4 c_e_8 f_e_8
  replace c_e_8 := cell_later hs4 c_e_8
  replace c_v_0 := cell_later hs4 c_v_0
  replace c_v_1 := cell_later hs4 c_v_1
  replace c_v_2 := cell_later hs4 c_v_2
  replace c_v_3 := cell_later hs4 c_v_3
  clear z_e
  have z_e : w.heap.size < _ := World.block_lt_of_cell? _ _ c_e_0
  clear z_v
  have z_v : w.heap.size + 1 < _ := World.block_lt_of_cell? _ _ c_v_0
  have hB4 := below_two hB3 hs4
  clear hB3 hs4
  go_wp2
  go_ret
  exact ⟨rfl, hB4⟩

set_option maxRecDepth 100000 in
set_option maxHeartbeats 40000000 in
theorem lengths_true (x : Ev) (vp vt vm : Value) (B D N E : Int) (LN LD : Int) (w : World) (h0 : EvR w vp vt vm x) (hR : Ready w) (hq : fewE x = true) (hr : Evt.right x = true) (hok : Val.ok x.b x.d x.n x.e = true) (hn : Val.lenN x.b x.d x.n x.e = LN) (hd : Val.lenD x.b x.d x.n x.e = LD) (he : Val.lenE x.b x.d x.n x.e = 0) (hv : Val.ok B D N E = true) (hw : Evt.right { x with b := B, d := D, n := N, e := E } = true):
    Calls Tryd.prog 13 #[evv x vp vt vm, vl B D N E] w fun ed w' => ed = .returned (.bool true) ∧ Below w.heap.size w w' := by
  have hgR := guardR
  have hgV := guardV
  have heR := eql_rt
  have hsR := eqR_self
  have hsP := eqP_self
  have hgP := guardP
  have heP := eql_pt
  have HQ := Lib.hid hq
  clear hq
  have HR := Lib.hid hr
  clear hr
  have HOK := Lib.hid hok
  clear hok
  have HN := Lib.hid hn
  clear hn
  have HD := Lib.hid hd
  clear hd
  have HE := Lib.hid he
  clear he
  have HV := Lib.hid hv
  clear hv
  have HW := Lib.hid hw
  clear hw
  obtain ⟨k, ps, ts, b, d, n, e0, ms, str⟩ := x
  have HX0 := Lib.hid h0
  obtain ⟨Pps, Cps, e1, _⟩ := sl_shape h0.ps
  obtain ⟨Pts, Cts, e2, _⟩ := sl_shape h0.ts
  obtain ⟨Pms, Cms, e3, _⟩ := sl_shape h0.ms
  dsimp only at e1 e2 e3
  subst e1 e2 e3
  clear h0
  have hB0 : Below w.heap.size w w := Below.refl _ _
  go_enter Tryd.func13, Tryd.ntmps13
  go_wp2_with fail
  have hR' := hR.below ((hB0.alloc hB0.size (.cells #[.int .i64 k, .slice Pps ps.length Cps, .slice Pts ts.length Cts, .int .i64 b, .int .i64 d, .int .i64 n, .int .i64 e0, .slice Pms ms.length Cms, .string str] 28)).alloc (hB0.alloc hB0.size (.cells #[.int .i64 k, .slice Pps ps.length Cps, .slice Pts ts.length Cts, .int .i64 b, .int .i64 d, .int .i64 n, .int .i64 e0, .slice Pms ms.length Cms, .string str] 28)).size (.cells #[.int .i64 B, .int .i64 D, .int .i64 N, .int .i64 E] 25))
  refine (awake_any _ hR').mono ?_
  rintro e w1 ⟨rfl, hb1⟩
  clear hR'
  have hs1 : Below w.heap.size w w1 := Below.trans (by repeat (first | exact Below.refl _ _ | refine Below.alloc ?_ (by simp <;> omega) _)) (hb1.mono (by simp <;> omega))
  have c_e_0 : w1.cell? ⟨w.heap.size, 0, none⟩ = some (.int .i64 k) := (hb1.cell (by simp <;> omega)).trans (by go_simp)
  have f_e_0 : w1.frozen? ⟨w.heap.size, 0, none⟩ = false := (hb1.frozen (by simp <;> omega)).trans (by go_simp)
  have c_e_1 : w1.cell? ⟨w.heap.size, 1, none⟩ = some (.slice Pps ps.length Cps) := (hb1.cell (by simp <;> omega)).trans (by go_simp)
  have f_e_1 : w1.frozen? ⟨w.heap.size, 1, none⟩ = false := (hb1.frozen (by simp <;> omega)).trans (by go_simp)
  have c_e_2 : w1.cell? ⟨w.heap.size, 2, none⟩ = some (.slice Pts ts.length Cts) := (hb1.cell (by simp <;> omega)).trans (by go_simp)
  have f_e_2 : w1.frozen? ⟨w.heap.size, 2, none⟩ = false := (hb1.frozen (by simp <;> omega)).trans (by go_simp)
  have c_e_3 : w1.cell? ⟨w.heap.size, 3, none⟩ = some (.int .i64 b) := (hb1.cell (by simp <;> omega)).trans (by go_simp)
  have f_e_3 : w1.frozen? ⟨w.heap.size, 3, none⟩ = false := (hb1.frozen (by simp <;> omega)).trans (by go_simp)
  have c_e_4 : w1.cell? ⟨w.heap.size, 4, none⟩ = some (.int .i64 d) := (hb1.cell (by simp <;> omega)).trans (by go_simp)
  have f_e_4 : w1.frozen? ⟨w.heap.size, 4, none⟩ = false := (hb1.frozen (by simp <;> omega)).trans (by go_simp)
  have c_e_5 : w1.cell? ⟨w.heap.size, 5, none⟩ = some (.int .i64 n) := (hb1.cell (by simp <;> omega)).trans (by go_simp)
  have f_e_5 : w1.frozen? ⟨w.heap.size, 5, none⟩ = false := (hb1.frozen (by simp <;> omega)).trans (by go_simp)
  have c_e_6 : w1.cell? ⟨w.heap.size, 6, none⟩ = some (.int .i64 e0) := (hb1.cell (by simp <;> omega)).trans (by go_simp)
  have f_e_6 : w1.frozen? ⟨w.heap.size, 6, none⟩ = false := (hb1.frozen (by simp <;> omega)).trans (by go_simp)
  have c_e_7 : w1.cell? ⟨w.heap.size, 7, none⟩ = some (.slice Pms ms.length Cms) := (hb1.cell (by simp <;> omega)).trans (by go_simp)
  have f_e_7 : w1.frozen? ⟨w.heap.size, 7, none⟩ = false := (hb1.frozen (by simp <;> omega)).trans (by go_simp)
  have c_e_8 : w1.cell? ⟨w.heap.size, 8, none⟩ = some (.string str) := (hb1.cell (by simp <;> omega)).trans (by go_simp)
  have f_e_8 : w1.frozen? ⟨w.heap.size, 8, none⟩ = false := (hb1.frozen (by simp <;> omega)).trans (by go_simp)
  have c_v_0 : w1.cell? ⟨w.heap.size + 1, 0, none⟩ = some (.int .i64 B) := (hb1.cell (by simp <;> omega)).trans (by go_simp)
  have c_v_1 : w1.cell? ⟨w.heap.size + 1, 1, none⟩ = some (.int .i64 D) := (hb1.cell (by simp <;> omega)).trans (by go_simp)
  have c_v_2 : w1.cell? ⟨w.heap.size + 1, 2, none⟩ = some (.int .i64 N) := (hb1.cell (by simp <;> omega)).trans (by go_simp)
  have c_v_3 : w1.cell? ⟨w.heap.size + 1, 3, none⟩ = some (.int .i64 E) := (hb1.cell (by simp <;> omega)).trans (by go_simp)
  have z_e : w.heap.size < _ := World.block_lt_of_cell? _ _ c_e_0
  have z_v : w.heap.size + 1 < _ := World.block_lt_of_cell? _ _ c_v_0
  have hB1 := below_two hB0 hs1
  clear hB0 hs1 hb1
  go_wp2_with fail
  have hs2 : Below w1.heap.size w1 w1 := by repeat (first | exact Below.refl _ _ | refine Below.alloc ?_ (by simp <;> omega) _)
  replace f_e_0 := frozen_later hs2 c_e_0 f_e_0
  replace c_e_0 := cell_later hs2 c_e_0
  replace f_e_1 := frozen_later hs2 c_e_1 f_e_1
  replace c_e_1 := cell_later hs2 c_e_1
  replace f_e_2 := frozen_later hs2 c_e_2 f_e_2
  replace c_e_2 := cell_later hs2 c_e_2
  replace f_e_3 := frozen_later hs2 c_e_3 f_e_3
  replace c_e_3 := cell_later hs2 c_e_3
  replace f_e_4 := frozen_later hs2 c_e_4 f_e_4
  replace c_e_4 := cell_later hs2 c_e_4
  replace f_e_5 := frozen_later hs2 c_e_5 f_e_5
  replace c_e_5 := cell_later hs2 c_e_5
  replace f_e_6 := frozen_later hs2 c_e_6 f_e_6
  replace c_e_6 := cell_later hs2 c_e_6
  replace f_e_7 := frozen_later hs2 c_e_7 f_e_7
  replace c_e_7 := cell_later hs2 c_e_7
  replace f_e_8 := frozen_later hs2 c_e_8 f_e_8
  replace c_e_8 := cell_later hs2 c_e_8
  replace c_v_0 := cell_later hs2 c_v_0
  replace c_v_1 := cell_later hs2 c_v_1
  replace c_v_2 := cell_later hs2 c_v_2
  replace c_v_3 := cell_later hs2 c_v_3
  have hB2 := below_two hB1 hs2
  clear hB1 hs2
  have y2_e := z_e
  have y2_v := z_v
  generalize w1 = w2 at *
  clear z_e
  have z_e : w.heap.size < _ := World.block_lt_of_cell? _ _ c_e_0
  clear z_v
  have z_v : w.heap.size + 1 < _ := World.block_lt_of_cell? _ _ c_v_0
  go_wp2_with fail
  have hR' := hR.below hB2
  refine (few_is HQ.out _ _ _ _ (HX0.out.later hB2)).mono ?_
  rintro e w3 ⟨rfl, hb3⟩
  clear hR'
  have hs3 := hb3
  replace f_e_0 := frozen_later hs3 c_e_0 f_e_0
  replace c_e_0 := cell_later hs3 c_e_0
  replace f_e_1 := frozen_later hs3 c_e_1 f_e_1
  replace c_e_1 := cell_later hs3 c_e_1
  replace f_e_2 := frozen_later hs3 c_e_2 f_e_2
  replace c_e_2 := cell_later hs3 c_e_2
  replace f_e_3 := frozen_later hs3 c_e_3 f_e_3
  replace c_e_3 := cell_later hs3 c_e_3
  replace f_e_4 := frozen_later hs3 c_e_4 f_e_4
  replace c_e_4 := cell_later hs3 c_e_4
  replace f_e_5 := frozen_later hs3 c_e_5 f_e_5
  replace c_e_5 := cell_later hs3 c_e_5
  replace f_e_6 := frozen_later hs3 c_e_6 f_e_6
  replace c_e_6 := cell_later hs3 c_e_6
  replace f_e_7 := frozen_later hs3 c_e_7 f_e_7
  replace c_e_7 := cell_later hs3 c_e_7
  replace f_e_8 := frozen_later hs3 c_e_8 f_e_8
  replace c_e_8 := cell_later hs3 c_e_8
  replace c_v_0 := cell_later hs3 c_v_0
  replace c_v_1 := cell_later hs3 c_v_1
  replace c_v_2 := cell_later hs3 c_v_2
  replace c_v_3 := cell_later hs3 c_v_3
  clear z_e
  have z_e : w.heap.size < _ := World.block_lt_of_cell? _ _ c_e_0
  clear z_v
  have z_v : w.heap.size + 1 < _ := World.block_lt_of_cell? _ _ c_v_0
  have hB3 := below_two hB2 hs3
  clear hB2 hs3
  go_wp2_with fail
  have hR' := hR.below hB3
  refine (eright_is HR.out _ _ _ _ (HX0.out.later hB3) hR').mono ?_
  rintro e w4 ⟨rfl, hb4⟩
  clear hR'
  have hs4 := hb4
  replace f_e_0 := frozen_later hs4 c_e_0 f_e_0
  replace c_e_0 := cell_later hs4 c_e_0
  replace f_e_1 := frozen_later hs4 c_e_1 f_e_1
  replace c_e_1 := cell_later hs4 c_e_1
  replace f_e_2 := frozen_later hs4 c_e_2 f_e_2
  replace c_e_2 := cell_later hs4 c_e_2
  replace f_e_3 := frozen_later hs4 c_e_3 f_e_3
  replace c_e_3 := cell_later hs4 c_e_3
  replace f_e_4 := frozen_later hs4 c_e_4 f_e_4
  replace c_e_4 := cell_later hs4 c_e_4
  replace f_e_5 := frozen_later hs4 c_e_5 f_e_5
  replace c_e_5 := cell_later hs4 c_e_5
  replace f_e_6 := frozen_later hs4 c_e_6 f_e_6
  replace c_e_6 := cell_later hs4 c_e_6
  replace f_e_7 := frozen_later hs4 c_e_7 f_e_7
  replace c_e_7 := cell_later hs4 c_e_7
  replace f_e_8 := frozen_later hs4 c_e_8 f_e_8
  replace c_e_8 := cell_later hs4 c_e_8
  replace c_v_0 := cell_later hs4 c_v_0
  replace c_v_1 := cell_later hs4 c_v_1
  replace c_v_2 := cell_later hs4 c_v_2
  replace c_v_3 := cell_later hs4 c_v_3
  clear z_e
  have z_e : w.heap.size < _ := World.block_lt_of_cell? _ _ c_e_0
  clear z_v
  have z_v : w.heap.size + 1 < _ := World.block_lt_of_cell? _ _ c_v_0
  have hB4 := below_two hB3 hs4
  clear hB3 hs4
  go_wp2_with fail
  have hR' := hR.below hB4
  refine (elength_yes _ _ _ _ _ LN LD 0 (HX0.out.later hB4) hR' HR HN HD HE).mono ?_
  rintro e w5 ⟨rfl, hb5⟩
  clear hR'
  have hs5 := hb5
  replace f_e_0 := frozen_later hs5 c_e_0 f_e_0
  replace c_e_0 := cell_later hs5 c_e_0
  replace f_e_1 := frozen_later hs5 c_e_1 f_e_1
  replace c_e_1 := cell_later hs5 c_e_1
  replace f_e_2 := frozen_later hs5 c_e_2 f_e_2
  replace c_e_2 := cell_later hs5 c_e_2
  replace f_e_3 := frozen_later hs5 c_e_3 f_e_3
  replace c_e_3 := cell_later hs5 c_e_3
  replace f_e_4 := frozen_later hs5 c_e_4 f_e_4
  replace c_e_4 := cell_later hs5 c_e_4
  replace f_e_5 := frozen_later hs5 c_e_5 f_e_5
  replace c_e_5 := cell_later hs5 c_e_5
  replace f_e_6 := frozen_later hs5 c_e_6 f_e_6
  replace c_e_6 := cell_later hs5 c_e_6
  replace f_e_7 := frozen_later hs5 c_e_7 f_e_7
  replace c_e_7 := cell_later hs5 c_e_7
  replace f_e_8 := frozen_later hs5 c_e_8 f_e_8
  replace c_e_8 := cell_later hs5 c_e_8
  replace c_v_0 := cell_later hs5 c_v_0
  replace c_v_1 := cell_later hs5 c_v_1
  replace c_v_2 := cell_later hs5 c_v_2
  replace c_v_3 := cell_later hs5 c_v_3
  clear z_e
  have z_e : w.heap.size < _ := World.block_lt_of_cell? _ _ c_e_0
  clear z_v
  have z_v : w.heap.size + 1 < _ := World.block_lt_of_cell? _ _ c_v_0
  have hB5 := below_two hB4 hs5
  clear hB4 hs5
  go_wp2_with fail
  have hR' := hR.below (hB5.alloc hB5.size (.cells #[.int .i64 LN, .int .i64 LD] 32))
  refine (length_right HOK.out HN.out HD.out _ hR').mono ?_
  rintro e w6 ⟨rfl, hb6⟩
  clear hR'
  have y6_e := z_e
  have y6_v := z_v
  have hs6 : Below w5.heap.size w5 w6 := Below.trans (by repeat (first | exact Below.refl _ _ | refine Below.alloc ?_ (by simp <;> omega) _)) (hb6.mono (by simp <;> omega))
  replace f_e_0 := frozen_later hs6 c_e_0 f_e_0
  replace c_e_0 := cell_later hs6 c_e_0
  replace f_e_1 := frozen_later hs6 c_e_1 f_e_1
  replace c_e_1 := cell_later hs6 c_e_1
  replace f_e_2 := frozen_later hs6 c_e_2 f_e_2
  replace c_e_2 := cell_later hs6 c_e_2
  replace f_e_3 := frozen_later hs6 c_e_3 f_e_3
  replace c_e_3 := cell_later hs6 c_e_3
  replace f_e_4 := frozen_later hs6 c_e_4 f_e_4
  replace c_e_4 := cell_later hs6 c_e_4
  replace f_e_5 := frozen_later hs6 c_e_5 f_e_5
  replace c_e_5 := cell_later hs6 c_e_5
  replace f_e_6 := frozen_later hs6 c_e_6 f_e_6
  replace c_e_6 := cell_later hs6 c_e_6
  replace f_e_7 := frozen_later hs6 c_e_7 f_e_7
  replace c_e_7 := cell_later hs6 c_e_7
  replace f_e_8 := frozen_later hs6 c_e_8 f_e_8
  replace c_e_8 := cell_later hs6 c_e_8
  replace c_v_0 := cell_later hs6 c_v_0
  replace c_v_1 := cell_later hs6 c_v_1
  replace c_v_2 := cell_later hs6 c_v_2
  replace c_v_3 := cell_later hs6 c_v_3
  have c_n_0 : w6.cell? ⟨w5.heap.size, 0, none⟩ = some (.int .i64 LN) := (hb6.cell (by simp <;> omega)).trans (by go_simp)
  have c_n_1 : w6.cell? ⟨w5.heap.size, 1, none⟩ = some (.int .i64 LD) := (hb6.cell (by simp <;> omega)).trans (by go_simp)
  clear z_e
  have z_e : w.heap.size < _ := World.block_lt_of_cell? _ _ c_e_0
  have z_n : w5.heap.size < _ := World.block_lt_of_cell? _ _ c_n_0
  clear z_v
  have z_v : w.heap.size + 1 < _ := World.block_lt_of_cell? _ _ c_v_0
  have hB6 := below_two hB5 hs6
  clear hB5 hs6 hb6
  go_upto_region 6 with fail
  have hs7 : Below w6.heap.size w6 (w6.alloc (.cells #[.int .i64 LN, .int .i64 LD] 32)) := by repeat (first | exact Below.refl _ _ | refine Below.alloc ?_ (by simp <;> omega) _)
  replace f_e_0 := frozen_later hs7 c_e_0 f_e_0
  replace c_e_0 := cell_later hs7 c_e_0
  replace f_e_1 := frozen_later hs7 c_e_1 f_e_1
  replace c_e_1 := cell_later hs7 c_e_1
  replace f_e_2 := frozen_later hs7 c_e_2 f_e_2
  replace c_e_2 := cell_later hs7 c_e_2
  replace f_e_3 := frozen_later hs7 c_e_3 f_e_3
  replace c_e_3 := cell_later hs7 c_e_3
  replace f_e_4 := frozen_later hs7 c_e_4 f_e_4
  replace c_e_4 := cell_later hs7 c_e_4
  replace f_e_5 := frozen_later hs7 c_e_5 f_e_5
  replace c_e_5 := cell_later hs7 c_e_5
  replace f_e_6 := frozen_later hs7 c_e_6 f_e_6
  replace c_e_6 := cell_later hs7 c_e_6
  replace f_e_7 := frozen_later hs7 c_e_7 f_e_7
  replace c_e_7 := cell_later hs7 c_e_7
  replace f_e_8 := frozen_later hs7 c_e_8 f_e_8
  replace c_e_8 := cell_later hs7 c_e_8
  replace c_v_0 := cell_later hs7 c_v_0
  replace c_v_1 := cell_later hs7 c_v_1
  replace c_v_2 := cell_later hs7 c_v_2
  replace c_v_3 := cell_later hs7 c_v_3
  replace c_n_0 := cell_later hs7 c_n_0
  replace c_n_1 := cell_later hs7 c_n_1
  have c_m_0 : (w6.alloc (.cells #[.int .i64 LN, .int .i64 LD] 32)).cell? ⟨w6.heap.size, 0, none⟩ = some (.int .i64 LN) := by go_simp
  have c_m_1 : (w6.alloc (.cells #[.int .i64 LN, .int .i64 LD] 32)).cell? ⟨w6.heap.size, 1, none⟩ = some (.int .i64 LD) := by go_simp
  have hB7 := below_two hB6 hs7
  clear hB6 hs7
  have y7_e := z_e
  have y7_n := z_n
  have y7_v := z_v
  generalize (w6.alloc (.cells #[.int .i64 LN, .int .i64 LD] 32)) = w7 at *
  clear z_e
  have z_e : w.heap.size < _ := World.block_lt_of_cell? _ _ c_e_0
  have z_m : w6.heap.size < _ := World.block_lt_of_cell? _ _ c_m_0
  clear z_n
  have z_n : w5.heap.size < _ := World.block_lt_of_cell? _ _ c_n_0
  clear z_v
  have z_v : w.heap.size + 1 < _ := World.block_lt_of_cell? _ _ c_v_0
  go_wp2_with fail
  have n_c_e_0 : ((((w7.setCell ⟨w.heap.size, 3, none⟩ (.int .i64 B)).setCell ⟨w.heap.size, 4, none⟩ (.int .i64 D)).setCell ⟨w.heap.size, 5, none⟩ (.int .i64 N)).setCell ⟨w.heap.size, 6, none⟩ (.int .i64 E)).cell? ⟨w.heap.size, 0, none⟩ = some (.int .i64 k) := set_beside (by decide) (set_beside (by decide) (set_beside (by decide) (set_beside (by decide) (c_e_0))))
  have n_f_e_0 : ((((w7.setCell ⟨w.heap.size, 3, none⟩ (.int .i64 B)).setCell ⟨w.heap.size, 4, none⟩ (.int .i64 D)).setCell ⟨w.heap.size, 5, none⟩ (.int .i64 N)).setCell ⟨w.heap.size, 6, none⟩ (.int .i64 E)).frozen? ⟨w.heap.size, 0, none⟩ = false := set_frozen (set_frozen (set_frozen (set_frozen (f_e_0))))
  have n_c_e_1 : ((((w7.setCell ⟨w.heap.size, 3, none⟩ (.int .i64 B)).setCell ⟨w.heap.size, 4, none⟩ (.int .i64 D)).setCell ⟨w.heap.size, 5, none⟩ (.int .i64 N)).setCell ⟨w.heap.size, 6, none⟩ (.int .i64 E)).cell? ⟨w.heap.size, 1, none⟩ = some (.slice Pps ps.length Cps) := set_beside (by decide) (set_beside (by decide) (set_beside (by decide) (set_beside (by decide) (c_e_1))))
  have n_f_e_1 : ((((w7.setCell ⟨w.heap.size, 3, none⟩ (.int .i64 B)).setCell ⟨w.heap.size, 4, none⟩ (.int .i64 D)).setCell ⟨w.heap.size, 5, none⟩ (.int .i64 N)).setCell ⟨w.heap.size, 6, none⟩ (.int .i64 E)).frozen? ⟨w.heap.size, 1, none⟩ = false := set_frozen (set_frozen (set_frozen (set_frozen (f_e_1))))
  have n_c_e_2 : ((((w7.setCell ⟨w.heap.size, 3, none⟩ (.int .i64 B)).setCell ⟨w.heap.size, 4, none⟩ (.int .i64 D)).setCell ⟨w.heap.size, 5, none⟩ (.int .i64 N)).setCell ⟨w.heap.size, 6, none⟩ (.int .i64 E)).cell? ⟨w.heap.size, 2, none⟩ = some (.slice Pts ts.length Cts) := set_beside (by decide) (set_beside (by decide) (set_beside (by decide) (set_beside (by decide) (c_e_2))))
  have n_f_e_2 : ((((w7.setCell ⟨w.heap.size, 3, none⟩ (.int .i64 B)).setCell ⟨w.heap.size, 4, none⟩ (.int .i64 D)).setCell ⟨w.heap.size, 5, none⟩ (.int .i64 N)).setCell ⟨w.heap.size, 6, none⟩ (.int .i64 E)).frozen? ⟨w.heap.size, 2, none⟩ = false := set_frozen (set_frozen (set_frozen (set_frozen (f_e_2))))
  have n_c_e_3 : ((((w7.setCell ⟨w.heap.size, 3, none⟩ (.int .i64 B)).setCell ⟨w.heap.size, 4, none⟩ (.int .i64 D)).setCell ⟨w.heap.size, 5, none⟩ (.int .i64 N)).setCell ⟨w.heap.size, 6, none⟩ (.int .i64 E)).cell? ⟨w.heap.size, 3, none⟩ = some (.int .i64 B) := set_beside (by decide) (set_beside (by decide) (set_beside (by decide) (set_same (held_of (c_e_3)))))
  have n_f_e_3 : ((((w7.setCell ⟨w.heap.size, 3, none⟩ (.int .i64 B)).setCell ⟨w.heap.size, 4, none⟩ (.int .i64 D)).setCell ⟨w.heap.size, 5, none⟩ (.int .i64 N)).setCell ⟨w.heap.size, 6, none⟩ (.int .i64 E)).frozen? ⟨w.heap.size, 3, none⟩ = false := set_frozen (set_frozen (set_frozen (set_frozen (f_e_3))))
  have n_c_e_4 : ((((w7.setCell ⟨w.heap.size, 3, none⟩ (.int .i64 B)).setCell ⟨w.heap.size, 4, none⟩ (.int .i64 D)).setCell ⟨w.heap.size, 5, none⟩ (.int .i64 N)).setCell ⟨w.heap.size, 6, none⟩ (.int .i64 E)).cell? ⟨w.heap.size, 4, none⟩ = some (.int .i64 D) := set_beside (by decide) (set_beside (by decide) (set_same (held_of (set_beside (by decide) (c_e_4)))))
  have n_f_e_4 : ((((w7.setCell ⟨w.heap.size, 3, none⟩ (.int .i64 B)).setCell ⟨w.heap.size, 4, none⟩ (.int .i64 D)).setCell ⟨w.heap.size, 5, none⟩ (.int .i64 N)).setCell ⟨w.heap.size, 6, none⟩ (.int .i64 E)).frozen? ⟨w.heap.size, 4, none⟩ = false := set_frozen (set_frozen (set_frozen (set_frozen (f_e_4))))
  have n_c_e_5 : ((((w7.setCell ⟨w.heap.size, 3, none⟩ (.int .i64 B)).setCell ⟨w.heap.size, 4, none⟩ (.int .i64 D)).setCell ⟨w.heap.size, 5, none⟩ (.int .i64 N)).setCell ⟨w.heap.size, 6, none⟩ (.int .i64 E)).cell? ⟨w.heap.size, 5, none⟩ = some (.int .i64 N) := set_beside (by decide) (set_same (held_of (set_beside (by decide) (set_beside (by decide) (c_e_5)))))
  have n_f_e_5 : ((((w7.setCell ⟨w.heap.size, 3, none⟩ (.int .i64 B)).setCell ⟨w.heap.size, 4, none⟩ (.int .i64 D)).setCell ⟨w.heap.size, 5, none⟩ (.int .i64 N)).setCell ⟨w.heap.size, 6, none⟩ (.int .i64 E)).frozen? ⟨w.heap.size, 5, none⟩ = false := set_frozen (set_frozen (set_frozen (set_frozen (f_e_5))))
  have n_c_e_6 : ((((w7.setCell ⟨w.heap.size, 3, none⟩ (.int .i64 B)).setCell ⟨w.heap.size, 4, none⟩ (.int .i64 D)).setCell ⟨w.heap.size, 5, none⟩ (.int .i64 N)).setCell ⟨w.heap.size, 6, none⟩ (.int .i64 E)).cell? ⟨w.heap.size, 6, none⟩ = some (.int .i64 E) := set_same (held_of (set_beside (by decide) (set_beside (by decide) (set_beside (by decide) (c_e_6)))))
  have n_f_e_6 : ((((w7.setCell ⟨w.heap.size, 3, none⟩ (.int .i64 B)).setCell ⟨w.heap.size, 4, none⟩ (.int .i64 D)).setCell ⟨w.heap.size, 5, none⟩ (.int .i64 N)).setCell ⟨w.heap.size, 6, none⟩ (.int .i64 E)).frozen? ⟨w.heap.size, 6, none⟩ = false := set_frozen (set_frozen (set_frozen (set_frozen (f_e_6))))
  have n_c_e_7 : ((((w7.setCell ⟨w.heap.size, 3, none⟩ (.int .i64 B)).setCell ⟨w.heap.size, 4, none⟩ (.int .i64 D)).setCell ⟨w.heap.size, 5, none⟩ (.int .i64 N)).setCell ⟨w.heap.size, 6, none⟩ (.int .i64 E)).cell? ⟨w.heap.size, 7, none⟩ = some (.slice Pms ms.length Cms) := set_beside (by decide) (set_beside (by decide) (set_beside (by decide) (set_beside (by decide) (c_e_7))))
  have n_f_e_7 : ((((w7.setCell ⟨w.heap.size, 3, none⟩ (.int .i64 B)).setCell ⟨w.heap.size, 4, none⟩ (.int .i64 D)).setCell ⟨w.heap.size, 5, none⟩ (.int .i64 N)).setCell ⟨w.heap.size, 6, none⟩ (.int .i64 E)).frozen? ⟨w.heap.size, 7, none⟩ = false := set_frozen (set_frozen (set_frozen (set_frozen (f_e_7))))
  have n_c_e_8 : ((((w7.setCell ⟨w.heap.size, 3, none⟩ (.int .i64 B)).setCell ⟨w.heap.size, 4, none⟩ (.int .i64 D)).setCell ⟨w.heap.size, 5, none⟩ (.int .i64 N)).setCell ⟨w.heap.size, 6, none⟩ (.int .i64 E)).cell? ⟨w.heap.size, 8, none⟩ = some (.string str) := set_beside (by decide) (set_beside (by decide) (set_beside (by decide) (set_beside (by decide) (c_e_8))))
  have n_f_e_8 : ((((w7.setCell ⟨w.heap.size, 3, none⟩ (.int .i64 B)).setCell ⟨w.heap.size, 4, none⟩ (.int .i64 D)).setCell ⟨w.heap.size, 5, none⟩ (.int .i64 N)).setCell ⟨w.heap.size, 6, none⟩ (.int .i64 E)).frozen? ⟨w.heap.size, 8, none⟩ = false := set_frozen (set_frozen (set_frozen (set_frozen (f_e_8))))
  have n_c_v_0 : ((((w7.setCell ⟨w.heap.size, 3, none⟩ (.int .i64 B)).setCell ⟨w.heap.size, 4, none⟩ (.int .i64 D)).setCell ⟨w.heap.size, 5, none⟩ (.int .i64 N)).setCell ⟨w.heap.size, 6, none⟩ (.int .i64 E)).cell? ⟨w.heap.size + 1, 0, none⟩ = some (.int .i64 B) := set_far (by omega) (set_far (by omega) (set_far (by omega) (set_far (by omega) (c_v_0))))
  have n_c_v_1 : ((((w7.setCell ⟨w.heap.size, 3, none⟩ (.int .i64 B)).setCell ⟨w.heap.size, 4, none⟩ (.int .i64 D)).setCell ⟨w.heap.size, 5, none⟩ (.int .i64 N)).setCell ⟨w.heap.size, 6, none⟩ (.int .i64 E)).cell? ⟨w.heap.size + 1, 1, none⟩ = some (.int .i64 D) := set_far (by omega) (set_far (by omega) (set_far (by omega) (set_far (by omega) (c_v_1))))
  have n_c_v_2 : ((((w7.setCell ⟨w.heap.size, 3, none⟩ (.int .i64 B)).setCell ⟨w.heap.size, 4, none⟩ (.int .i64 D)).setCell ⟨w.heap.size, 5, none⟩ (.int .i64 N)).setCell ⟨w.heap.size, 6, none⟩ (.int .i64 E)).cell? ⟨w.heap.size + 1, 2, none⟩ = some (.int .i64 N) := set_far (by omega) (set_far (by omega) (set_far (by omega) (set_far (by omega) (c_v_2))))
  have n_c_v_3 : ((((w7.setCell ⟨w.heap.size, 3, none⟩ (.int .i64 B)).setCell ⟨w.heap.size, 4, none⟩ (.int .i64 D)).setCell ⟨w.heap.size, 5, none⟩ (.int .i64 N)).setCell ⟨w.heap.size, 6, none⟩ (.int .i64 E)).cell? ⟨w.heap.size + 1, 3, none⟩ = some (.int .i64 E) := set_far (by omega) (set_far (by omega) (set_far (by omega) (set_far (by omega) (c_v_3))))
  have n_c_n_0 : ((((w7.setCell ⟨w.heap.size, 3, none⟩ (.int .i64 B)).setCell ⟨w.heap.size, 4, none⟩ (.int .i64 D)).setCell ⟨w.heap.size, 5, none⟩ (.int .i64 N)).setCell ⟨w.heap.size, 6, none⟩ (.int .i64 E)).cell? ⟨w5.heap.size, 0, none⟩ = some (.int .i64 LN) := set_far (by omega) (set_far (by omega) (set_far (by omega) (set_far (by omega) (c_n_0))))
  have n_c_n_1 : ((((w7.setCell ⟨w.heap.size, 3, none⟩ (.int .i64 B)).setCell ⟨w.heap.size, 4, none⟩ (.int .i64 D)).setCell ⟨w.heap.size, 5, none⟩ (.int .i64 N)).setCell ⟨w.heap.size, 6, none⟩ (.int .i64 E)).cell? ⟨w5.heap.size, 1, none⟩ = some (.int .i64 LD) := set_far (by omega) (set_far (by omega) (set_far (by omega) (set_far (by omega) (c_n_1))))
  have n_c_m_0 : ((((w7.setCell ⟨w.heap.size, 3, none⟩ (.int .i64 B)).setCell ⟨w.heap.size, 4, none⟩ (.int .i64 D)).setCell ⟨w.heap.size, 5, none⟩ (.int .i64 N)).setCell ⟨w.heap.size, 6, none⟩ (.int .i64 E)).cell? ⟨w6.heap.size, 0, none⟩ = some (.int .i64 LN) := set_far (by omega) (set_far (by omega) (set_far (by omega) (set_far (by omega) (c_m_0))))
  have n_c_m_1 : ((((w7.setCell ⟨w.heap.size, 3, none⟩ (.int .i64 B)).setCell ⟨w.heap.size, 4, none⟩ (.int .i64 D)).setCell ⟨w.heap.size, 5, none⟩ (.int .i64 N)).setCell ⟨w.heap.size, 6, none⟩ (.int .i64 E)).cell? ⟨w6.heap.size, 1, none⟩ = some (.int .i64 LD) := set_far (by omega) (set_far (by omega) (set_far (by omega) (set_far (by omega) (c_m_1))))
  have hB8 : Below w.heap.size w ((((w7.setCell ⟨w.heap.size, 3, none⟩ (.int .i64 B)).setCell ⟨w.heap.size, 4, none⟩ (.int .i64 D)).setCell ⟨w.heap.size, 5, none⟩ (.int .i64 N)).setCell ⟨w.heap.size, 6, none⟩ (.int .i64 E)) := (set1_below (set1_below (set1_below (set1_below hB7 (by omega)) (by omega)) (by omega)) (by omega))
  clear c_e_0 c_e_1 c_e_2 c_e_3 c_e_4 c_e_5 c_e_6 c_e_7 c_e_8 c_v_0 c_v_1 c_v_2 c_v_3 c_n_0 c_n_1 c_m_0 c_m_1 f_e_0 f_e_1 f_e_2 f_e_3 f_e_4 f_e_5 f_e_6 f_e_7 f_e_8 hB7 z_e z_m z_n z_v
  have c_e_0 := n_c_e_0
  clear n_c_e_0
  have c_e_1 := n_c_e_1
  clear n_c_e_1
  have c_e_2 := n_c_e_2
  clear n_c_e_2
  have c_e_3 := n_c_e_3
  clear n_c_e_3
  have c_e_4 := n_c_e_4
  clear n_c_e_4
  have c_e_5 := n_c_e_5
  clear n_c_e_5
  have c_e_6 := n_c_e_6
  clear n_c_e_6
  have c_e_7 := n_c_e_7
  clear n_c_e_7
  have c_e_8 := n_c_e_8
  clear n_c_e_8
  have c_v_0 := n_c_v_0
  clear n_c_v_0
  have c_v_1 := n_c_v_1
  clear n_c_v_1
  have c_v_2 := n_c_v_2
  clear n_c_v_2
  have c_v_3 := n_c_v_3
  clear n_c_v_3
  have c_n_0 := n_c_n_0
  clear n_c_n_0
  have c_n_1 := n_c_n_1
  clear n_c_n_1
  have c_m_0 := n_c_m_0
  clear n_c_m_0
  have c_m_1 := n_c_m_1
  clear n_c_m_1
  have f_e_0 := n_f_e_0
  clear n_f_e_0
  have f_e_1 := n_f_e_1
  clear n_f_e_1
  have f_e_2 := n_f_e_2
  clear n_f_e_2
  have f_e_3 := n_f_e_3
  clear n_f_e_3
  have f_e_4 := n_f_e_4
  clear n_f_e_4
  have f_e_5 := n_f_e_5
  clear n_f_e_5
  have f_e_6 := n_f_e_6
  clear n_f_e_6
  have f_e_7 := n_f_e_7
  clear n_f_e_7
  have f_e_8 := n_f_e_8
  clear n_f_e_8
  generalize (((w7.setCell ⟨w.heap.size, 3, none⟩ (.int .i64 B)).setCell ⟨w.heap.size, 4, none⟩ (.int .i64 D)).setCell ⟨w.heap.size, 5, none⟩ (.int .i64 N)).setCell ⟨w.heap.size, 6, none⟩ (.int .i64 E) = w8 at *
  have z_e : w.heap.size < _ := World.block_lt_of_cell? _ _ c_e_0
  have z_m : w6.heap.size < _ := World.block_lt_of_cell? _ _ c_m_0
  have z_n : w5.heap.size < _ := World.block_lt_of_cell? _ _ c_n_0
  have z_v : w.heap.size + 1 < _ := World.block_lt_of_cell? _ _ c_v_0
  go_wp2_with fail
  have QB : Hid (∀ dd os, Below w.heap.size w (Go.Sort.grow (redrawn w8 dd) os)) := Lib.hid (fun dd os => below_two hB8 (below_regrown w8 dd os))
  have g_c_e_0 := fun dd os => cell_regrown c_e_0 dd os
  have g_c_e_1 := fun dd os => cell_regrown c_e_1 dd os
  have g_c_e_2 := fun dd os => cell_regrown c_e_2 dd os
  have g_c_e_3 := fun dd os => cell_regrown c_e_3 dd os
  have g_c_e_4 := fun dd os => cell_regrown c_e_4 dd os
  have g_c_e_5 := fun dd os => cell_regrown c_e_5 dd os
  have g_c_e_6 := fun dd os => cell_regrown c_e_6 dd os
  have g_c_e_7 := fun dd os => cell_regrown c_e_7 dd os
  have g_c_e_8 := fun dd os => cell_regrown c_e_8 dd os
  have g_c_v_0 := fun dd os => cell_regrown c_v_0 dd os
  have g_c_v_1 := fun dd os => cell_regrown c_v_1 dd os
  have g_c_v_2 := fun dd os => cell_regrown c_v_2 dd os
  have g_c_v_3 := fun dd os => cell_regrown c_v_3 dd os
  have g_c_n_0 := fun dd os => cell_regrown c_n_0 dd os
  have g_c_n_1 := fun dd os => cell_regrown c_n_1 dd os
  have g_c_m_0 := fun dd os => cell_regrown c_m_0 dd os
  have g_c_m_1 := fun dd os => cell_regrown c_m_1 dd os
  have q0 : Hid (∀ dd os, Calls Tryd.prog 19 #[.agg #[.int .i64 k, .slice Pps ps.length Cps, .slice Pts ts.length Cts, .int .i64 B, .int .i64 D, .int .i64 N, .int .i64 E, .slice Pms ms.length Cms, .string str]] (Go.Sort.grow (redrawn w8 dd) os) fun e w'' => e = .returned (.bool true) ∧ ∃ p : Regrown, w'' = Go.Sort.grow (redrawn w8 p.d) p.os) := Lib.hid (fun dd os => Calls.regrown_of (eright_is HW.out _ _ _ _ ⟨(HX0.out.later (QB.out dd os)).ps, (HX0.out.later (QB.out dd os)).ts, (HX0.out.later (QB.out dd os)).ms, HX0.out.sz⟩ (hR.below (QB.out dd os))))
  have q1 : Hid (∀ dd os, Calls Tryd.prog 32 #[vl B D N E] (Go.Sort.grow (redrawn w8 dd) os) fun e w'' => e = .returned (.bool true) ∧ ∃ p : Regrown, w'' = Go.Sort.grow (redrawn w8 p.d) p.os) := Lib.hid (fun dd os => Calls.regrown_of (vright_is HV.out (Go.Sort.grow (redrawn w8 dd) os)))
  refine wp_region_quiet_below (by kernel_rfl) (by kernel_rfl) ?_
  repeat (go_big_quiet_step (first | (go_at_call 19; exact q0.out _ _) | (go_at_call 32; exact q1.out _ _)))
  refine wpQuiet_nil ?_
  intro _ hw'
  obtain ⟨⟨dq, osq⟩, hw''⟩ := hw'
  subst hw''
  replace c_e_0 := g_c_e_0 dq osq
  clear g_c_e_0
  replace c_e_1 := g_c_e_1 dq osq
  clear g_c_e_1
  replace c_e_2 := g_c_e_2 dq osq
  clear g_c_e_2
  replace c_e_3 := g_c_e_3 dq osq
  clear g_c_e_3
  replace c_e_4 := g_c_e_4 dq osq
  clear g_c_e_4
  replace c_e_5 := g_c_e_5 dq osq
  clear g_c_e_5
  replace c_e_6 := g_c_e_6 dq osq
  clear g_c_e_6
  replace c_e_7 := g_c_e_7 dq osq
  clear g_c_e_7
  replace c_e_8 := g_c_e_8 dq osq
  clear g_c_e_8
  replace c_v_0 := g_c_v_0 dq osq
  clear g_c_v_0
  replace c_v_1 := g_c_v_1 dq osq
  clear g_c_v_1
  replace c_v_2 := g_c_v_2 dq osq
  clear g_c_v_2
  replace c_v_3 := g_c_v_3 dq osq
  clear g_c_v_3
  replace c_n_0 := g_c_n_0 dq osq
  clear g_c_n_0
  replace c_n_1 := g_c_n_1 dq osq
  clear g_c_n_1
  replace c_m_0 := g_c_m_0 dq osq
  clear g_c_m_0
  replace c_m_1 := g_c_m_1 dq osq
  clear g_c_m_1
  clear q0
  clear q1
  have hB9 := QB.out dq osq
  clear QB hB8 z_e z_m z_n z_v
  generalize Go.Sort.grow (redrawn w8 dq) osq = w9 at *
  have z_e : w.heap.size < _ := World.block_lt_of_cell? _ _ c_e_0
  have z_m : w6.heap.size < _ := World.block_lt_of_cell? _ _ c_m_0
  have z_n : w5.heap.size < _ := World.block_lt_of_cell? _ _ c_n_0
  have z_v : w.heap.size + 1 < _ := World.block_lt_of_cell? _ _ c_v_0
  go_wp2
  go_ret
  exact ⟨rfl, hB9⟩

set_option maxRecDepth 100000 in
set_option maxHeartbeats 40000000 in
theorem lengths_false (x : Ev) (vp vt vm : Value) (B D N E : Int) (LN LD : Int) (w : World) (h0 : EvR w vp vt vm x) (hR : Ready w) (hq : fewE x = true) (hr : Evt.right x = true) (hok : Val.ok x.b x.d x.n x.e = true) (hn : Val.lenN x.b x.d x.n x.e = LN) (hd : Val.lenD x.b x.d x.n x.e = LD) (he : Val.lenE x.b x.d x.n x.e = 0) (hv : Val.ok B D N E = false) (hw : Evt.right { x with b := B, d := D, n := N, e := E } = false):
    Calls Tryd.prog 13 #[evv x vp vt vm, vl B D N E] w fun ed w' => ed = .returned (.bool true) ∧ Below w.heap.size w w' := by
  have hgR := guardR
  have hgV := guardV
  have heR := eql_rt
  have hsR := eqR_self
  have hsP := eqP_self
  have hgP := guardP
  have heP := eql_pt
  have HQ := Lib.hid hq
  clear hq
  have HR := Lib.hid hr
  clear hr
  have HOK := Lib.hid hok
  clear hok
  have HN := Lib.hid hn
  clear hn
  have HD := Lib.hid hd
  clear hd
  have HE := Lib.hid he
  clear he
  have HV := Lib.hid hv
  clear hv
  have HW := Lib.hid hw
  clear hw
  obtain ⟨k, ps, ts, b, d, n, e0, ms, str⟩ := x
  have HX0 := Lib.hid h0
  obtain ⟨Pps, Cps, e1, _⟩ := sl_shape h0.ps
  obtain ⟨Pts, Cts, e2, _⟩ := sl_shape h0.ts
  obtain ⟨Pms, Cms, e3, _⟩ := sl_shape h0.ms
  dsimp only at e1 e2 e3
  subst e1 e2 e3
  clear h0
  have hB0 : Below w.heap.size w w := Below.refl _ _
  go_enter Tryd.func13, Tryd.ntmps13
  go_wp2_with fail
  have hR' := hR.below ((hB0.alloc hB0.size (.cells #[.int .i64 k, .slice Pps ps.length Cps, .slice Pts ts.length Cts, .int .i64 b, .int .i64 d, .int .i64 n, .int .i64 e0, .slice Pms ms.length Cms, .string str] 28)).alloc (hB0.alloc hB0.size (.cells #[.int .i64 k, .slice Pps ps.length Cps, .slice Pts ts.length Cts, .int .i64 b, .int .i64 d, .int .i64 n, .int .i64 e0, .slice Pms ms.length Cms, .string str] 28)).size (.cells #[.int .i64 B, .int .i64 D, .int .i64 N, .int .i64 E] 25))
  refine (awake_any _ hR').mono ?_
  rintro e w1 ⟨rfl, hb1⟩
  clear hR'
  have hs1 : Below w.heap.size w w1 := Below.trans (by repeat (first | exact Below.refl _ _ | refine Below.alloc ?_ (by simp <;> omega) _)) (hb1.mono (by simp <;> omega))
  have c_e_0 : w1.cell? ⟨w.heap.size, 0, none⟩ = some (.int .i64 k) := (hb1.cell (by simp <;> omega)).trans (by go_simp)
  have f_e_0 : w1.frozen? ⟨w.heap.size, 0, none⟩ = false := (hb1.frozen (by simp <;> omega)).trans (by go_simp)
  have c_e_1 : w1.cell? ⟨w.heap.size, 1, none⟩ = some (.slice Pps ps.length Cps) := (hb1.cell (by simp <;> omega)).trans (by go_simp)
  have f_e_1 : w1.frozen? ⟨w.heap.size, 1, none⟩ = false := (hb1.frozen (by simp <;> omega)).trans (by go_simp)
  have c_e_2 : w1.cell? ⟨w.heap.size, 2, none⟩ = some (.slice Pts ts.length Cts) := (hb1.cell (by simp <;> omega)).trans (by go_simp)
  have f_e_2 : w1.frozen? ⟨w.heap.size, 2, none⟩ = false := (hb1.frozen (by simp <;> omega)).trans (by go_simp)
  have c_e_3 : w1.cell? ⟨w.heap.size, 3, none⟩ = some (.int .i64 b) := (hb1.cell (by simp <;> omega)).trans (by go_simp)
  have f_e_3 : w1.frozen? ⟨w.heap.size, 3, none⟩ = false := (hb1.frozen (by simp <;> omega)).trans (by go_simp)
  have c_e_4 : w1.cell? ⟨w.heap.size, 4, none⟩ = some (.int .i64 d) := (hb1.cell (by simp <;> omega)).trans (by go_simp)
  have f_e_4 : w1.frozen? ⟨w.heap.size, 4, none⟩ = false := (hb1.frozen (by simp <;> omega)).trans (by go_simp)
  have c_e_5 : w1.cell? ⟨w.heap.size, 5, none⟩ = some (.int .i64 n) := (hb1.cell (by simp <;> omega)).trans (by go_simp)
  have f_e_5 : w1.frozen? ⟨w.heap.size, 5, none⟩ = false := (hb1.frozen (by simp <;> omega)).trans (by go_simp)
  have c_e_6 : w1.cell? ⟨w.heap.size, 6, none⟩ = some (.int .i64 e0) := (hb1.cell (by simp <;> omega)).trans (by go_simp)
  have f_e_6 : w1.frozen? ⟨w.heap.size, 6, none⟩ = false := (hb1.frozen (by simp <;> omega)).trans (by go_simp)
  have c_e_7 : w1.cell? ⟨w.heap.size, 7, none⟩ = some (.slice Pms ms.length Cms) := (hb1.cell (by simp <;> omega)).trans (by go_simp)
  have f_e_7 : w1.frozen? ⟨w.heap.size, 7, none⟩ = false := (hb1.frozen (by simp <;> omega)).trans (by go_simp)
  have c_e_8 : w1.cell? ⟨w.heap.size, 8, none⟩ = some (.string str) := (hb1.cell (by simp <;> omega)).trans (by go_simp)
  have f_e_8 : w1.frozen? ⟨w.heap.size, 8, none⟩ = false := (hb1.frozen (by simp <;> omega)).trans (by go_simp)
  have c_v_0 : w1.cell? ⟨w.heap.size + 1, 0, none⟩ = some (.int .i64 B) := (hb1.cell (by simp <;> omega)).trans (by go_simp)
  have c_v_1 : w1.cell? ⟨w.heap.size + 1, 1, none⟩ = some (.int .i64 D) := (hb1.cell (by simp <;> omega)).trans (by go_simp)
  have c_v_2 : w1.cell? ⟨w.heap.size + 1, 2, none⟩ = some (.int .i64 N) := (hb1.cell (by simp <;> omega)).trans (by go_simp)
  have c_v_3 : w1.cell? ⟨w.heap.size + 1, 3, none⟩ = some (.int .i64 E) := (hb1.cell (by simp <;> omega)).trans (by go_simp)
  have z_e : w.heap.size < _ := World.block_lt_of_cell? _ _ c_e_0
  have z_v : w.heap.size + 1 < _ := World.block_lt_of_cell? _ _ c_v_0
  have hB1 := below_two hB0 hs1
  clear hB0 hs1 hb1
  go_wp2_with fail
  have hs2 : Below w1.heap.size w1 w1 := by repeat (first | exact Below.refl _ _ | refine Below.alloc ?_ (by simp <;> omega) _)
  replace f_e_0 := frozen_later hs2 c_e_0 f_e_0
  replace c_e_0 := cell_later hs2 c_e_0
  replace f_e_1 := frozen_later hs2 c_e_1 f_e_1
  replace c_e_1 := cell_later hs2 c_e_1
  replace f_e_2 := frozen_later hs2 c_e_2 f_e_2
  replace c_e_2 := cell_later hs2 c_e_2
  replace f_e_3 := frozen_later hs2 c_e_3 f_e_3
  replace c_e_3 := cell_later hs2 c_e_3
  replace f_e_4 := frozen_later hs2 c_e_4 f_e_4
  replace c_e_4 := cell_later hs2 c_e_4
  replace f_e_5 := frozen_later hs2 c_e_5 f_e_5
  replace c_e_5 := cell_later hs2 c_e_5
  replace f_e_6 := frozen_later hs2 c_e_6 f_e_6
  replace c_e_6 := cell_later hs2 c_e_6
  replace f_e_7 := frozen_later hs2 c_e_7 f_e_7
  replace c_e_7 := cell_later hs2 c_e_7
  replace f_e_8 := frozen_later hs2 c_e_8 f_e_8
  replace c_e_8 := cell_later hs2 c_e_8
  replace c_v_0 := cell_later hs2 c_v_0
  replace c_v_1 := cell_later hs2 c_v_1
  replace c_v_2 := cell_later hs2 c_v_2
  replace c_v_3 := cell_later hs2 c_v_3
  have hB2 := below_two hB1 hs2
  clear hB1 hs2
  have y2_e := z_e
  have y2_v := z_v
  generalize w1 = w2 at *
  clear z_e
  have z_e : w.heap.size < _ := World.block_lt_of_cell? _ _ c_e_0
  clear z_v
  have z_v : w.heap.size + 1 < _ := World.block_lt_of_cell? _ _ c_v_0
  go_wp2_with fail
  have hR' := hR.below hB2
  refine (few_is HQ.out _ _ _ _ (HX0.out.later hB2)).mono ?_
  rintro e w3 ⟨rfl, hb3⟩
  clear hR'
  have hs3 := hb3
  replace f_e_0 := frozen_later hs3 c_e_0 f_e_0
  replace c_e_0 := cell_later hs3 c_e_0
  replace f_e_1 := frozen_later hs3 c_e_1 f_e_1
  replace c_e_1 := cell_later hs3 c_e_1
  replace f_e_2 := frozen_later hs3 c_e_2 f_e_2
  replace c_e_2 := cell_later hs3 c_e_2
  replace f_e_3 := frozen_later hs3 c_e_3 f_e_3
  replace c_e_3 := cell_later hs3 c_e_3
  replace f_e_4 := frozen_later hs3 c_e_4 f_e_4
  replace c_e_4 := cell_later hs3 c_e_4
  replace f_e_5 := frozen_later hs3 c_e_5 f_e_5
  replace c_e_5 := cell_later hs3 c_e_5
  replace f_e_6 := frozen_later hs3 c_e_6 f_e_6
  replace c_e_6 := cell_later hs3 c_e_6
  replace f_e_7 := frozen_later hs3 c_e_7 f_e_7
  replace c_e_7 := cell_later hs3 c_e_7
  replace f_e_8 := frozen_later hs3 c_e_8 f_e_8
  replace c_e_8 := cell_later hs3 c_e_8
  replace c_v_0 := cell_later hs3 c_v_0
  replace c_v_1 := cell_later hs3 c_v_1
  replace c_v_2 := cell_later hs3 c_v_2
  replace c_v_3 := cell_later hs3 c_v_3
  clear z_e
  have z_e : w.heap.size < _ := World.block_lt_of_cell? _ _ c_e_0
  clear z_v
  have z_v : w.heap.size + 1 < _ := World.block_lt_of_cell? _ _ c_v_0
  have hB3 := below_two hB2 hs3
  clear hB2 hs3
  go_wp2_with fail
  have hR' := hR.below hB3
  refine (eright_is HR.out _ _ _ _ (HX0.out.later hB3) hR').mono ?_
  rintro e w4 ⟨rfl, hb4⟩
  clear hR'
  have hs4 := hb4
  replace f_e_0 := frozen_later hs4 c_e_0 f_e_0
  replace c_e_0 := cell_later hs4 c_e_0
  replace f_e_1 := frozen_later hs4 c_e_1 f_e_1
  replace c_e_1 := cell_later hs4 c_e_1
  replace f_e_2 := frozen_later hs4 c_e_2 f_e_2
  replace c_e_2 := cell_later hs4 c_e_2
  replace f_e_3 := frozen_later hs4 c_e_3 f_e_3
  replace c_e_3 := cell_later hs4 c_e_3
  replace f_e_4 := frozen_later hs4 c_e_4 f_e_4
  replace c_e_4 := cell_later hs4 c_e_4
  replace f_e_5 := frozen_later hs4 c_e_5 f_e_5
  replace c_e_5 := cell_later hs4 c_e_5
  replace f_e_6 := frozen_later hs4 c_e_6 f_e_6
  replace c_e_6 := cell_later hs4 c_e_6
  replace f_e_7 := frozen_later hs4 c_e_7 f_e_7
  replace c_e_7 := cell_later hs4 c_e_7
  replace f_e_8 := frozen_later hs4 c_e_8 f_e_8
  replace c_e_8 := cell_later hs4 c_e_8
  replace c_v_0 := cell_later hs4 c_v_0
  replace c_v_1 := cell_later hs4 c_v_1
  replace c_v_2 := cell_later hs4 c_v_2
  replace c_v_3 := cell_later hs4 c_v_3
  clear z_e
  have z_e : w.heap.size < _ := World.block_lt_of_cell? _ _ c_e_0
  clear z_v
  have z_v : w.heap.size + 1 < _ := World.block_lt_of_cell? _ _ c_v_0
  have hB4 := below_two hB3 hs4
  clear hB3 hs4
  go_wp2_with fail
  have hR' := hR.below hB4
  refine (elength_yes _ _ _ _ _ LN LD 0 (HX0.out.later hB4) hR' HR HN HD HE).mono ?_
  rintro e w5 ⟨rfl, hb5⟩
  clear hR'
  have hs5 := hb5
  replace f_e_0 := frozen_later hs5 c_e_0 f_e_0
  replace c_e_0 := cell_later hs5 c_e_0
  replace f_e_1 := frozen_later hs5 c_e_1 f_e_1
  replace c_e_1 := cell_later hs5 c_e_1
  replace f_e_2 := frozen_later hs5 c_e_2 f_e_2
  replace c_e_2 := cell_later hs5 c_e_2
  replace f_e_3 := frozen_later hs5 c_e_3 f_e_3
  replace c_e_3 := cell_later hs5 c_e_3
  replace f_e_4 := frozen_later hs5 c_e_4 f_e_4
  replace c_e_4 := cell_later hs5 c_e_4
  replace f_e_5 := frozen_later hs5 c_e_5 f_e_5
  replace c_e_5 := cell_later hs5 c_e_5
  replace f_e_6 := frozen_later hs5 c_e_6 f_e_6
  replace c_e_6 := cell_later hs5 c_e_6
  replace f_e_7 := frozen_later hs5 c_e_7 f_e_7
  replace c_e_7 := cell_later hs5 c_e_7
  replace f_e_8 := frozen_later hs5 c_e_8 f_e_8
  replace c_e_8 := cell_later hs5 c_e_8
  replace c_v_0 := cell_later hs5 c_v_0
  replace c_v_1 := cell_later hs5 c_v_1
  replace c_v_2 := cell_later hs5 c_v_2
  replace c_v_3 := cell_later hs5 c_v_3
  clear z_e
  have z_e : w.heap.size < _ := World.block_lt_of_cell? _ _ c_e_0
  clear z_v
  have z_v : w.heap.size + 1 < _ := World.block_lt_of_cell? _ _ c_v_0
  have hB5 := below_two hB4 hs5
  clear hB4 hs5
  go_wp2_with fail
  have hR' := hR.below (hB5.alloc hB5.size (.cells #[.int .i64 LN, .int .i64 LD] 32))
  refine (length_right HOK.out HN.out HD.out _ hR').mono ?_
  rintro e w6 ⟨rfl, hb6⟩
  clear hR'
  have y6_e := z_e
  have y6_v := z_v
  have hs6 : Below w5.heap.size w5 w6 := Below.trans (by repeat (first | exact Below.refl _ _ | refine Below.alloc ?_ (by simp <;> omega) _)) (hb6.mono (by simp <;> omega))
  replace f_e_0 := frozen_later hs6 c_e_0 f_e_0
  replace c_e_0 := cell_later hs6 c_e_0
  replace f_e_1 := frozen_later hs6 c_e_1 f_e_1
  replace c_e_1 := cell_later hs6 c_e_1
  replace f_e_2 := frozen_later hs6 c_e_2 f_e_2
  replace c_e_2 := cell_later hs6 c_e_2
  replace f_e_3 := frozen_later hs6 c_e_3 f_e_3
  replace c_e_3 := cell_later hs6 c_e_3
  replace f_e_4 := frozen_later hs6 c_e_4 f_e_4
  replace c_e_4 := cell_later hs6 c_e_4
  replace f_e_5 := frozen_later hs6 c_e_5 f_e_5
  replace c_e_5 := cell_later hs6 c_e_5
  replace f_e_6 := frozen_later hs6 c_e_6 f_e_6
  replace c_e_6 := cell_later hs6 c_e_6
  replace f_e_7 := frozen_later hs6 c_e_7 f_e_7
  replace c_e_7 := cell_later hs6 c_e_7
  replace f_e_8 := frozen_later hs6 c_e_8 f_e_8
  replace c_e_8 := cell_later hs6 c_e_8
  replace c_v_0 := cell_later hs6 c_v_0
  replace c_v_1 := cell_later hs6 c_v_1
  replace c_v_2 := cell_later hs6 c_v_2
  replace c_v_3 := cell_later hs6 c_v_3
  have c_n_0 : w6.cell? ⟨w5.heap.size, 0, none⟩ = some (.int .i64 LN) := (hb6.cell (by simp <;> omega)).trans (by go_simp)
  have c_n_1 : w6.cell? ⟨w5.heap.size, 1, none⟩ = some (.int .i64 LD) := (hb6.cell (by simp <;> omega)).trans (by go_simp)
  clear z_e
  have z_e : w.heap.size < _ := World.block_lt_of_cell? _ _ c_e_0
  have z_n : w5.heap.size < _ := World.block_lt_of_cell? _ _ c_n_0
  clear z_v
  have z_v : w.heap.size + 1 < _ := World.block_lt_of_cell? _ _ c_v_0
  have hB6 := below_two hB5 hs6
  clear hB5 hs6 hb6
  go_upto_region 6 with fail
  have hs7 : Below w6.heap.size w6 (w6.alloc (.cells #[.int .i64 LN, .int .i64 LD] 32)) := by repeat (first | exact Below.refl _ _ | refine Below.alloc ?_ (by simp <;> omega) _)
  replace f_e_0 := frozen_later hs7 c_e_0 f_e_0
  replace c_e_0 := cell_later hs7 c_e_0
  replace f_e_1 := frozen_later hs7 c_e_1 f_e_1
  replace c_e_1 := cell_later hs7 c_e_1
  replace f_e_2 := frozen_later hs7 c_e_2 f_e_2
  replace c_e_2 := cell_later hs7 c_e_2
  replace f_e_3 := frozen_later hs7 c_e_3 f_e_3
  replace c_e_3 := cell_later hs7 c_e_3
  replace f_e_4 := frozen_later hs7 c_e_4 f_e_4
  replace c_e_4 := cell_later hs7 c_e_4
  replace f_e_5 := frozen_later hs7 c_e_5 f_e_5
  replace c_e_5 := cell_later hs7 c_e_5
  replace f_e_6 := frozen_later hs7 c_e_6 f_e_6
  replace c_e_6 := cell_later hs7 c_e_6
  replace f_e_7 := frozen_later hs7 c_e_7 f_e_7
  replace c_e_7 := cell_later hs7 c_e_7
  replace f_e_8 := frozen_later hs7 c_e_8 f_e_8
  replace c_e_8 := cell_later hs7 c_e_8
  replace c_v_0 := cell_later hs7 c_v_0
  replace c_v_1 := cell_later hs7 c_v_1
  replace c_v_2 := cell_later hs7 c_v_2
  replace c_v_3 := cell_later hs7 c_v_3
  replace c_n_0 := cell_later hs7 c_n_0
  replace c_n_1 := cell_later hs7 c_n_1
  have c_m_0 : (w6.alloc (.cells #[.int .i64 LN, .int .i64 LD] 32)).cell? ⟨w6.heap.size, 0, none⟩ = some (.int .i64 LN) := by go_simp
  have c_m_1 : (w6.alloc (.cells #[.int .i64 LN, .int .i64 LD] 32)).cell? ⟨w6.heap.size, 1, none⟩ = some (.int .i64 LD) := by go_simp
  have hB7 := below_two hB6 hs7
  clear hB6 hs7
  have y7_e := z_e
  have y7_n := z_n
  have y7_v := z_v
  generalize (w6.alloc (.cells #[.int .i64 LN, .int .i64 LD] 32)) = w7 at *
  clear z_e
  have z_e : w.heap.size < _ := World.block_lt_of_cell? _ _ c_e_0
  have z_m : w6.heap.size < _ := World.block_lt_of_cell? _ _ c_m_0
  clear z_n
  have z_n : w5.heap.size < _ := World.block_lt_of_cell? _ _ c_n_0
  clear z_v
  have z_v : w.heap.size + 1 < _ := World.block_lt_of_cell? _ _ c_v_0
  go_wp2_with fail
  have n_c_e_0 : ((((w7.setCell ⟨w.heap.size, 3, none⟩ (.int .i64 B)).setCell ⟨w.heap.size, 4, none⟩ (.int .i64 D)).setCell ⟨w.heap.size, 5, none⟩ (.int .i64 N)).setCell ⟨w.heap.size, 6, none⟩ (.int .i64 E)).cell? ⟨w.heap.size, 0, none⟩ = some (.int .i64 k) := set_beside (by decide) (set_beside (by decide) (set_beside (by decide) (set_beside (by decide) (c_e_0))))
  have n_f_e_0 : ((((w7.setCell ⟨w.heap.size, 3, none⟩ (.int .i64 B)).setCell ⟨w.heap.size, 4, none⟩ (.int .i64 D)).setCell ⟨w.heap.size, 5, none⟩ (.int .i64 N)).setCell ⟨w.heap.size, 6, none⟩ (.int .i64 E)).frozen? ⟨w.heap.size, 0, none⟩ = false := set_frozen (set_frozen (set_frozen (set_frozen (f_e_0))))
  have n_c_e_1 : ((((w7.setCell ⟨w.heap.size, 3, none⟩ (.int .i64 B)).setCell ⟨w.heap.size, 4, none⟩ (.int .i64 D)).setCell ⟨w.heap.size, 5, none⟩ (.int .i64 N)).setCell ⟨w.heap.size, 6, none⟩ (.int .i64 E)).cell? ⟨w.heap.size, 1, none⟩ = some (.slice Pps ps.length Cps) := set_beside (by decide) (set_beside (by decide) (set_beside (by decide) (set_beside (by decide) (c_e_1))))
  have n_f_e_1 : ((((w7.setCell ⟨w.heap.size, 3, none⟩ (.int .i64 B)).setCell ⟨w.heap.size, 4, none⟩ (.int .i64 D)).setCell ⟨w.heap.size, 5, none⟩ (.int .i64 N)).setCell ⟨w.heap.size, 6, none⟩ (.int .i64 E)).frozen? ⟨w.heap.size, 1, none⟩ = false := set_frozen (set_frozen (set_frozen (set_frozen (f_e_1))))
  have n_c_e_2 : ((((w7.setCell ⟨w.heap.size, 3, none⟩ (.int .i64 B)).setCell ⟨w.heap.size, 4, none⟩ (.int .i64 D)).setCell ⟨w.heap.size, 5, none⟩ (.int .i64 N)).setCell ⟨w.heap.size, 6, none⟩ (.int .i64 E)).cell? ⟨w.heap.size, 2, none⟩ = some (.slice Pts ts.length Cts) := set_beside (by decide) (set_beside (by decide) (set_beside (by decide) (set_beside (by decide) (c_e_2))))
  have n_f_e_2 : ((((w7.setCell ⟨w.heap.size, 3, none⟩ (.int .i64 B)).setCell ⟨w.heap.size, 4, none⟩ (.int .i64 D)).setCell ⟨w.heap.size, 5, none⟩ (.int .i64 N)).setCell ⟨w.heap.size, 6, none⟩ (.int .i64 E)).frozen? ⟨w.heap.size, 2, none⟩ = false := set_frozen (set_frozen (set_frozen (set_frozen (f_e_2))))
  have n_c_e_3 : ((((w7.setCell ⟨w.heap.size, 3, none⟩ (.int .i64 B)).setCell ⟨w.heap.size, 4, none⟩ (.int .i64 D)).setCell ⟨w.heap.size, 5, none⟩ (.int .i64 N)).setCell ⟨w.heap.size, 6, none⟩ (.int .i64 E)).cell? ⟨w.heap.size, 3, none⟩ = some (.int .i64 B) := set_beside (by decide) (set_beside (by decide) (set_beside (by decide) (set_same (held_of (c_e_3)))))
  have n_f_e_3 : ((((w7.setCell ⟨w.heap.size, 3, none⟩ (.int .i64 B)).setCell ⟨w.heap.size, 4, none⟩ (.int .i64 D)).setCell ⟨w.heap.size, 5, none⟩ (.int .i64 N)).setCell ⟨w.heap.size, 6, none⟩ (.int .i64 E)).frozen? ⟨w.heap.size, 3, none⟩ = false := set_frozen (set_frozen (set_frozen (set_frozen (f_e_3))))
  have n_c_e_4 : ((((w7.setCell ⟨w.heap.size, 3, none⟩ (.int .i64 B)).setCell ⟨w.heap.size, 4, none⟩ (.int .i64 D)).setCell ⟨w.heap.size, 5, none⟩ (.int .i64 N)).setCell ⟨w.heap.size, 6, none⟩ (.int .i64 E)).cell? ⟨w.heap.size, 4, none⟩ = some (.int .i64 D) := set_beside (by decide) (set_beside (by decide) (set_same (held_of (set_beside (by decide) (c_e_4)))))
  have n_f_e_4 : ((((w7.setCell ⟨w.heap.size, 3, none⟩ (.int .i64 B)).setCell ⟨w.heap.size, 4, none⟩ (.int .i64 D)).setCell ⟨w.heap.size, 5, none⟩ (.int .i64 N)).setCell ⟨w.heap.size, 6, none⟩ (.int .i64 E)).frozen? ⟨w.heap.size, 4, none⟩ = false := set_frozen (set_frozen (set_frozen (set_frozen (f_e_4))))
  have n_c_e_5 : ((((w7.setCell ⟨w.heap.size, 3, none⟩ (.int .i64 B)).setCell ⟨w.heap.size, 4, none⟩ (.int .i64 D)).setCell ⟨w.heap.size, 5, none⟩ (.int .i64 N)).setCell ⟨w.heap.size, 6, none⟩ (.int .i64 E)).cell? ⟨w.heap.size, 5, none⟩ = some (.int .i64 N) := set_beside (by decide) (set_same (held_of (set_beside (by decide) (set_beside (by decide) (c_e_5)))))
  have n_f_e_5 : ((((w7.setCell ⟨w.heap.size, 3, none⟩ (.int .i64 B)).setCell ⟨w.heap.size, 4, none⟩ (.int .i64 D)).setCell ⟨w.heap.size, 5, none⟩ (.int .i64 N)).setCell ⟨w.heap.size, 6, none⟩ (.int .i64 E)).frozen? ⟨w.heap.size, 5, none⟩ = false := set_frozen (set_frozen (set_frozen (set_frozen (f_e_5))))
  have n_c_e_6 : ((((w7.setCell ⟨w.heap.size, 3, none⟩ (.int .i64 B)).setCell ⟨w.heap.size, 4, none⟩ (.int .i64 D)).setCell ⟨w.heap.size, 5, none⟩ (.int .i64 N)).setCell ⟨w.heap.size, 6, none⟩ (.int .i64 E)).cell? ⟨w.heap.size, 6, none⟩ = some (.int .i64 E) := set_same (held_of (set_beside (by decide) (set_beside (by decide) (set_beside (by decide) (c_e_6)))))
  have n_f_e_6 : ((((w7.setCell ⟨w.heap.size, 3, none⟩ (.int .i64 B)).setCell ⟨w.heap.size, 4, none⟩ (.int .i64 D)).setCell ⟨w.heap.size, 5, none⟩ (.int .i64 N)).setCell ⟨w.heap.size, 6, none⟩ (.int .i64 E)).frozen? ⟨w.heap.size, 6, none⟩ = false := set_frozen (set_frozen (set_frozen (set_frozen (f_e_6))))
  have n_c_e_7 : ((((w7.setCell ⟨w.heap.size, 3, none⟩ (.int .i64 B)).setCell ⟨w.heap.size, 4, none⟩ (.int .i64 D)).setCell ⟨w.heap.size, 5, none⟩ (.int .i64 N)).setCell ⟨w.heap.size, 6, none⟩ (.int .i64 E)).cell? ⟨w.heap.size, 7, none⟩ = some (.slice Pms ms.length Cms) := set_beside (by decide) (set_beside (by decide) (set_beside (by decide) (set_beside (by decide) (c_e_7))))
  have n_f_e_7 : ((((w7.setCell ⟨w.heap.size, 3, none⟩ (.int .i64 B)).setCell ⟨w.heap.size, 4, none⟩ (.int .i64 D)).setCell ⟨w.heap.size, 5, none⟩ (.int .i64 N)).setCell ⟨w.heap.size, 6, none⟩ (.int .i64 E)).frozen? ⟨w.heap.size, 7, none⟩ = false := set_frozen (set_frozen (set_frozen (set_frozen (f_e_7))))
  have n_c_e_8 : ((((w7.setCell ⟨w.heap.size, 3, none⟩ (.int .i64 B)).setCell ⟨w.heap.size, 4, none⟩ (.int .i64 D)).setCell ⟨w.heap.size, 5, none⟩ (.int .i64 N)).setCell ⟨w.heap.size, 6, none⟩ (.int .i64 E)).cell? ⟨w.heap.size, 8, none⟩ = some (.string str) := set_beside (by decide) (set_beside (by decide) (set_beside (by decide) (set_beside (by decide) (c_e_8))))
  have n_f_e_8 : ((((w7.setCell ⟨w.heap.size, 3, none⟩ (.int .i64 B)).setCell ⟨w.heap.size, 4, none⟩ (.int .i64 D)).setCell ⟨w.heap.size, 5, none⟩ (.int .i64 N)).setCell ⟨w.heap.size, 6, none⟩ (.int .i64 E)).frozen? ⟨w.heap.size, 8, none⟩ = false := set_frozen (set_frozen (set_frozen (set_frozen (f_e_8))))
  have n_c_v_0 : ((((w7.setCell ⟨w.heap.size, 3, none⟩ (.int .i64 B)).setCell ⟨w.heap.size, 4, none⟩ (.int .i64 D)).setCell ⟨w.heap.size, 5, none⟩ (.int .i64 N)).setCell ⟨w.heap.size, 6, none⟩ (.int .i64 E)).cell? ⟨w.heap.size + 1, 0, none⟩ = some (.int .i64 B) := set_far (by omega) (set_far (by omega) (set_far (by omega) (set_far (by omega) (c_v_0))))
  have n_c_v_1 : ((((w7.setCell ⟨w.heap.size, 3, none⟩ (.int .i64 B)).setCell ⟨w.heap.size, 4, none⟩ (.int .i64 D)).setCell ⟨w.heap.size, 5, none⟩ (.int .i64 N)).setCell ⟨w.heap.size, 6, none⟩ (.int .i64 E)).cell? ⟨w.heap.size + 1, 1, none⟩ = some (.int .i64 D) := set_far (by omega) (set_far (by omega) (set_far (by omega) (set_far (by omega) (c_v_1))))
  have n_c_v_2 : ((((w7.setCell ⟨w.heap.size, 3, none⟩ (.int .i64 B)).setCell ⟨w.heap.size, 4, none⟩ (.int .i64 D)).setCell ⟨w.heap.size, 5, none⟩ (.int .i64 N)).setCell ⟨w.heap.size, 6, none⟩ (.int .i64 E)).cell? ⟨w.heap.size + 1, 2, none⟩ = some (.int .i64 N) := set_far (by omega) (set_far (by omega) (set_far (by omega) (set_far (by omega) (c_v_2))))
  have n_c_v_3 : ((((w7.setCell ⟨w.heap.size, 3, none⟩ (.int .i64 B)).setCell ⟨w.heap.size, 4, none⟩ (.int .i64 D)).setCell ⟨w.heap.size, 5, none⟩ (.int .i64 N)).setCell ⟨w.heap.size, 6, none⟩ (.int .i64 E)).cell? ⟨w.heap.size + 1, 3, none⟩ = some (.int .i64 E) := set_far (by omega) (set_far (by omega) (set_far (by omega) (set_far (by omega) (c_v_3))))
  have n_c_n_0 : ((((w7.setCell ⟨w.heap.size, 3, none⟩ (.int .i64 B)).setCell ⟨w.heap.size, 4, none⟩ (.int .i64 D)).setCell ⟨w.heap.size, 5, none⟩ (.int .i64 N)).setCell ⟨w.heap.size, 6, none⟩ (.int .i64 E)).cell? ⟨w5.heap.size, 0, none⟩ = some (.int .i64 LN) := set_far (by omega) (set_far (by omega) (set_far (by omega) (set_far (by omega) (c_n_0))))
  have n_c_n_1 : ((((w7.setCell ⟨w.heap.size, 3, none⟩ (.int .i64 B)).setCell ⟨w.heap.size, 4, none⟩ (.int .i64 D)).setCell ⟨w.heap.size, 5, none⟩ (.int .i64 N)).setCell ⟨w.heap.size, 6, none⟩ (.int .i64 E)).cell? ⟨w5.heap.size, 1, none⟩ = some (.int .i64 LD) := set_far (by omega) (set_far (by omega) (set_far (by omega) (set_far (by omega) (c_n_1))))
  have n_c_m_0 : ((((w7.setCell ⟨w.heap.size, 3, none⟩ (.int .i64 B)).setCell ⟨w.heap.size, 4, none⟩ (.int .i64 D)).setCell ⟨w.heap.size, 5, none⟩ (.int .i64 N)).setCell ⟨w.heap.size, 6, none⟩ (.int .i64 E)).cell? ⟨w6.heap.size, 0, none⟩ = some (.int .i64 LN) := set_far (by omega) (set_far (by omega) (set_far (by omega) (set_far (by omega) (c_m_0))))
  have n_c_m_1 : ((((w7.setCell ⟨w.heap.size, 3, none⟩ (.int .i64 B)).setCell ⟨w.heap.size, 4, none⟩ (.int .i64 D)).setCell ⟨w.heap.size, 5, none⟩ (.int .i64 N)).setCell ⟨w.heap.size, 6, none⟩ (.int .i64 E)).cell? ⟨w6.heap.size, 1, none⟩ = some (.int .i64 LD) := set_far (by omega) (set_far (by omega) (set_far (by omega) (set_far (by omega) (c_m_1))))
  have hB8 : Below w.heap.size w ((((w7.setCell ⟨w.heap.size, 3, none⟩ (.int .i64 B)).setCell ⟨w.heap.size, 4, none⟩ (.int .i64 D)).setCell ⟨w.heap.size, 5, none⟩ (.int .i64 N)).setCell ⟨w.heap.size, 6, none⟩ (.int .i64 E)) := (set1_below (set1_below (set1_below (set1_below hB7 (by omega)) (by omega)) (by omega)) (by omega))
  clear c_e_0 c_e_1 c_e_2 c_e_3 c_e_4 c_e_5 c_e_6 c_e_7 c_e_8 c_v_0 c_v_1 c_v_2 c_v_3 c_n_0 c_n_1 c_m_0 c_m_1 f_e_0 f_e_1 f_e_2 f_e_3 f_e_4 f_e_5 f_e_6 f_e_7 f_e_8 hB7 z_e z_m z_n z_v
  have c_e_0 := n_c_e_0
  clear n_c_e_0
  have c_e_1 := n_c_e_1
  clear n_c_e_1
  have c_e_2 := n_c_e_2
  clear n_c_e_2
  have c_e_3 := n_c_e_3
  clear n_c_e_3
  have c_e_4 := n_c_e_4
  clear n_c_e_4
  have c_e_5 := n_c_e_5
  clear n_c_e_5
  have c_e_6 := n_c_e_6
  clear n_c_e_6
  have c_e_7 := n_c_e_7
  clear n_c_e_7
  have c_e_8 := n_c_e_8
  clear n_c_e_8
  have c_v_0 := n_c_v_0
  clear n_c_v_0
  have c_v_1 := n_c_v_1
  clear n_c_v_1
  have c_v_2 := n_c_v_2
  clear n_c_v_2
  have c_v_3 := n_c_v_3
  clear n_c_v_3
  have c_n_0 := n_c_n_0
  clear n_c_n_0
  have c_n_1 := n_c_n_1
  clear n_c_n_1
  have c_m_0 := n_c_m_0
  clear n_c_m_0
  have c_m_1 := n_c_m_1
  clear n_c_m_1
  have f_e_0 := n_f_e_0
  clear n_f_e_0
  have f_e_1 := n_f_e_1
  clear n_f_e_1
  have f_e_2 := n_f_e_2
  clear n_f_e_2
  have f_e_3 := n_f_e_3
  clear n_f_e_3
  have f_e_4 := n_f_e_4
  clear n_f_e_4
  have f_e_5 := n_f_e_5
  clear n_f_e_5
  have f_e_6 := n_f_e_6
  clear n_f_e_6
  have f_e_7 := n_f_e_7
  clear n_f_e_7
  have f_e_8 := n_f_e_8
  clear n_f_e_8
  generalize (((w7.setCell ⟨w.heap.size, 3, none⟩ (.int .i64 B)).setCell ⟨w.heap.size, 4, none⟩ (.int .i64 D)).setCell ⟨w.heap.size, 5, none⟩ (.int .i64 N)).setCell ⟨w.heap.size, 6, none⟩ (.int .i64 E) = w8 at *
  have z_e : w.heap.size < _ := World.block_lt_of_cell? _ _ c_e_0
  have z_m : w6.heap.size < _ := World.block_lt_of_cell? _ _ c_m_0
  have z_n : w5.heap.size < _ := World.block_lt_of_cell? _ _ c_n_0
  have z_v : w.heap.size + 1 < _ := World.block_lt_of_cell? _ _ c_v_0
  go_wp2_with fail
  have QB : Hid (∀ dd os, Below w.heap.size w (Go.Sort.grow (redrawn w8 dd) os)) := Lib.hid (fun dd os => below_two hB8 (below_regrown w8 dd os))
  have g_c_e_0 := fun dd os => cell_regrown c_e_0 dd os
  have g_c_e_1 := fun dd os => cell_regrown c_e_1 dd os
  have g_c_e_2 := fun dd os => cell_regrown c_e_2 dd os
  have g_c_e_3 := fun dd os => cell_regrown c_e_3 dd os
  have g_c_e_4 := fun dd os => cell_regrown c_e_4 dd os
  have g_c_e_5 := fun dd os => cell_regrown c_e_5 dd os
  have g_c_e_6 := fun dd os => cell_regrown c_e_6 dd os
  have g_c_e_7 := fun dd os => cell_regrown c_e_7 dd os
  have g_c_e_8 := fun dd os => cell_regrown c_e_8 dd os
  have g_c_v_0 := fun dd os => cell_regrown c_v_0 dd os
  have g_c_v_1 := fun dd os => cell_regrown c_v_1 dd os
  have g_c_v_2 := fun dd os => cell_regrown c_v_2 dd os
  have g_c_v_3 := fun dd os => cell_regrown c_v_3 dd os
  have g_c_n_0 := fun dd os => cell_regrown c_n_0 dd os
  have g_c_n_1 := fun dd os => cell_regrown c_n_1 dd os
  have g_c_m_0 := fun dd os => cell_regrown c_m_0 dd os
  have g_c_m_1 := fun dd os => cell_regrown c_m_1 dd os
  have q0 : Hid (∀ dd os, Calls Tryd.prog 19 #[.agg #[.int .i64 k, .slice Pps ps.length Cps, .slice Pts ts.length Cts, .int .i64 B, .int .i64 D, .int .i64 N, .int .i64 E, .slice Pms ms.length Cms, .string str]] (Go.Sort.grow (redrawn w8 dd) os) fun e w'' => e = .returned (.bool false) ∧ ∃ p : Regrown, w'' = Go.Sort.grow (redrawn w8 p.d) p.os) := Lib.hid (fun dd os => Calls.regrown_of (eright_is HW.out _ _ _ _ ⟨(HX0.out.later (QB.out dd os)).ps, (HX0.out.later (QB.out dd os)).ts, (HX0.out.later (QB.out dd os)).ms, HX0.out.sz⟩ (hR.below (QB.out dd os))))
  have q1 : Hid (∀ dd os, Calls Tryd.prog 32 #[vl B D N E] (Go.Sort.grow (redrawn w8 dd) os) fun e w'' => e = .returned (.bool false) ∧ ∃ p : Regrown, w'' = Go.Sort.grow (redrawn w8 p.d) p.os) := Lib.hid (fun dd os => Calls.regrown_of (vright_is HV.out (Go.Sort.grow (redrawn w8 dd) os)))
  refine wp_region_quiet_below (by kernel_rfl) (by kernel_rfl) ?_
  repeat (go_big_quiet_step (first | (go_at_call 19; exact q0.out _ _) | (go_at_call 32; exact q1.out _ _)))
  refine wpQuiet_nil ?_
  intro _ hw'
  obtain ⟨⟨dq, osq⟩, hw''⟩ := hw'
  subst hw''
  replace c_e_0 := g_c_e_0 dq osq
  clear g_c_e_0
  replace c_e_1 := g_c_e_1 dq osq
  clear g_c_e_1
  replace c_e_2 := g_c_e_2 dq osq
  clear g_c_e_2
  replace c_e_3 := g_c_e_3 dq osq
  clear g_c_e_3
  replace c_e_4 := g_c_e_4 dq osq
  clear g_c_e_4
  replace c_e_5 := g_c_e_5 dq osq
  clear g_c_e_5
  replace c_e_6 := g_c_e_6 dq osq
  clear g_c_e_6
  replace c_e_7 := g_c_e_7 dq osq
  clear g_c_e_7
  replace c_e_8 := g_c_e_8 dq osq
  clear g_c_e_8
  replace c_v_0 := g_c_v_0 dq osq
  clear g_c_v_0
  replace c_v_1 := g_c_v_1 dq osq
  clear g_c_v_1
  replace c_v_2 := g_c_v_2 dq osq
  clear g_c_v_2
  replace c_v_3 := g_c_v_3 dq osq
  clear g_c_v_3
  replace c_n_0 := g_c_n_0 dq osq
  clear g_c_n_0
  replace c_n_1 := g_c_n_1 dq osq
  clear g_c_n_1
  replace c_m_0 := g_c_m_0 dq osq
  clear g_c_m_0
  replace c_m_1 := g_c_m_1 dq osq
  clear g_c_m_1
  clear q0
  clear q1
  have hB9 := QB.out dq osq
  clear QB hB8 z_e z_m z_n z_v
  generalize Go.Sort.grow (redrawn w8 dq) osq = w9 at *
  have z_e : w.heap.size < _ := World.block_lt_of_cell? _ _ c_e_0
  have z_m : w6.heap.size < _ := World.block_lt_of_cell? _ _ c_m_0
  have z_n : w5.heap.size < _ := World.block_lt_of_cell? _ _ c_n_0
  have z_v : w.heap.size + 1 < _ := World.block_lt_of_cell? _ _ c_v_0
  go_wp2
  go_ret
  exact ⟨rfl, hB9⟩

theorem lengths_any (x : Ev) (vp vt vm : Value) (B D N E : Int) (w : World) (h : EvR w vp vt vm x) (hR : Ready w) : Calls Tryd.prog 13 #[evv x vp vt vm, vl B D N E] w fun ed w' => ed = .returned (.bool true) ∧ Below w.heap.size w w' := by
  cases hq : fewE x
  · exact lengths_few x vp vt vm B D N E w h hR hq
  · cases hr : Evt.right x
    · exact lengths_wrong x vp vt vm B D N E w h hR hq hr
    · have hok := Evt.right_ok hr
      have he : Val.lenE x.b x.d x.n x.e = 0 := by unfold Val.lenE; rw [hok]; rfl
      cases hv : Val.ok B D N E
      · exact lengths_false x vp vt vm B D N E _ _ w h hR hq hr hok rfl rfl he hv (by rw [Evt.right_with hr, hv])
      · exact lengths_true x vp vt vm B D N E _ _ w h hR hq hr hok rfl rfl he hv (by rw [Evt.right_with hr, hv])
end Go.Proofs.YtoiankbopjaamaaDoor
