/-
  EventRights answers true: the law's walk.
-/
import Derived.Test.YtoiankbopjaamaaDoorEvLaw
import Derived.Test.YtoiankbopjaamaaDoorEvRefT
namespace Go.Proofs.YtoiankbopjaamaaDoor
open Go.RowKit
open Evt (P3 Ev)

set_option maxRecDepth 100000 in
set_option maxHeartbeats 40000000 in
theorem rights_few (x : Ev) (vp vt vm : Value) (w : World) (h0 : EvR w vp vt vm x) (hR : Ready w) (hq : fewE x = false):
    Calls Tryd.prog 3 #[evv x vp vt vm] w fun ed w' => ed = .returned (.bool true) ∧ Below w.heap.size w w' := by
  have hgR := guardR
  have hgV := guardV
  have heR := eql_rt
  have hsR := eqR_self
  have hsP := eqP_self
  have hgP := guardP
  have heP := eql_pt
  have HQ := Lib.hid hq
  clear hq
  obtain ⟨k, ps, ts, b, d, n, e0, ms, str⟩ := x
  have HX0 := Lib.hid h0
  obtain ⟨Pps, Cps, e1, _⟩ := sl_shape h0.ps
  obtain ⟨Pts, Cts, e2, _⟩ := sl_shape h0.ts
  obtain ⟨Pms, Cms, e3, _⟩ := sl_shape h0.ms
  dsimp only at e1 e2 e3
  subst e1 e2 e3
  clear h0
  have hB0 : Below w.heap.size w w := Below.refl _ _
  go_enter Tryd.func3, Tryd.ntmps3
  go_wp2_with fail
  have hR' := hR.below (hB0.alloc hB0.size (.cells #[.int .i64 k, .slice Pps ps.length Cps, .slice Pts ts.length Cts, .int .i64 b, .int .i64 d, .int .i64 n, .int .i64 e0, .slice Pms ms.length Cms, .string str] 28))
  refine (awake_any _ hR').mono ?_
  rintro e w1 ⟨rfl, hb1⟩
  clear hR'
  have hs1 : Below w.heap.size w w1 := Below.trans (by repeat (first | exact Below.refl _ _ | refine Below.alloc ?_ (by simp <;> omega) _)) (hb1.mono (by simp <;> omega))
  have c_e_0 : w1.cell? ⟨w.heap.size, 0, none⟩ = some (.int .i64 k) := (hb1.cell (by simp <;> omega)).trans (by go_simp)
  have c_e_1 : w1.cell? ⟨w.heap.size, 1, none⟩ = some (.slice Pps ps.length Cps) := (hb1.cell (by simp <;> omega)).trans (by go_simp)
  have c_e_2 : w1.cell? ⟨w.heap.size, 2, none⟩ = some (.slice Pts ts.length Cts) := (hb1.cell (by simp <;> omega)).trans (by go_simp)
  have c_e_3 : w1.cell? ⟨w.heap.size, 3, none⟩ = some (.int .i64 b) := (hb1.cell (by simp <;> omega)).trans (by go_simp)
  have c_e_4 : w1.cell? ⟨w.heap.size, 4, none⟩ = some (.int .i64 d) := (hb1.cell (by simp <;> omega)).trans (by go_simp)
  have c_e_5 : w1.cell? ⟨w.heap.size, 5, none⟩ = some (.int .i64 n) := (hb1.cell (by simp <;> omega)).trans (by go_simp)
  have c_e_6 : w1.cell? ⟨w.heap.size, 6, none⟩ = some (.int .i64 e0) := (hb1.cell (by simp <;> omega)).trans (by go_simp)
  have c_e_7 : w1.cell? ⟨w.heap.size, 7, none⟩ = some (.slice Pms ms.length Cms) := (hb1.cell (by simp <;> omega)).trans (by go_simp)
  have c_e_8 : w1.cell? ⟨w.heap.size, 8, none⟩ = some (.string str) := (hb1.cell (by simp <;> omega)).trans (by go_simp)
  have z_e : w.heap.size < _ := World.block_lt_of_cell? _ _ c_e_0
  have hB1 := below_two hB0 hs1
  clear hB0 hs1 hb1
  go_wp2_with fail
  have hs2 : Below w1.heap.size w1 w1 := by repeat (first | exact Below.refl _ _ | refine Below.alloc ?_ (by simp <;> omega) _)
  replace c_e_0 := cell_later hs2 c_e_0
  replace c_e_1 := cell_later hs2 c_e_1
  replace c_e_2 := cell_later hs2 c_e_2
  replace c_e_3 := cell_later hs2 c_e_3
  replace c_e_4 := cell_later hs2 c_e_4
  replace c_e_5 := cell_later hs2 c_e_5
  replace c_e_6 := cell_later hs2 c_e_6
  replace c_e_7 := cell_later hs2 c_e_7
  replace c_e_8 := cell_later hs2 c_e_8
  have hB2 := below_two hB1 hs2
  clear hB1 hs2
  have y2_e := z_e
  generalize w1 = w2 at *
  clear z_e
  have z_e : w.heap.size < _ := World.block_lt_of_cell? _ _ c_e_0
  go_wp2_with fail
  have hR' := hR.below hB2
  refine (few_is HQ.out _ _ _ _ (HX0.out.later hB2)).mono ?_
  rintro e w3 ⟨rfl, hb3⟩
  clear hR'
  have hs3 := hb3
  replace c_e_0 := cell_later hs3 c_e_0
  replace c_e_1 := cell_later hs3 c_e_1
  replace c_e_2 := cell_later hs3 c_e_2
  replace c_e_3 := cell_later hs3 c_e_3
  replace c_e_4 := cell_later hs3 c_e_4
  replace c_e_5 := cell_later hs3 c_e_5
  replace c_e_6 := cell_later hs3 c_e_6
  replace c_e_7 := cell_later hs3 c_e_7
  replace c_e_8 := cell_later hs3 c_e_8
  clear z_e
  have z_e : w.heap.size < _ := World.block_lt_of_cell? _ _ c_e_0
  have hB3 := below_two hB2 hs3
  clear hB2 hs3
  go_wp2
  go_ret
  exact ⟨rfl, hB3⟩

set_option maxRecDepth 100000 in
set_option maxHeartbeats 40000000 in
theorem rights_no (x : Ev) (vp vt vm : Value) (w : World) (h0 : EvR w vp vt vm x) (hR : Ready w) (hq : fewE x = true) (hr : Evt.right x = false) (ht : Evt.tied x = false):
    Calls Tryd.prog 3 #[evv x vp vt vm] w fun ed w' => ed = .returned (.bool true) ∧ Below w.heap.size w w' := by
  have hgR := guardR
  have hgV := guardV
  have heR := eql_rt
  have hsR := eqR_self
  have hsP := eqP_self
  have hgP := guardP
  have heP := eql_pt
  have HQ := Lib.hid hq
  clear hq
  have HR := Lib.hid hr
  clear hr
  have HT := Lib.hid ht
  clear ht
  obtain ⟨k, ps, ts, b, d, n, e0, ms, str⟩ := x
  have HX0 := Lib.hid h0
  obtain ⟨Pps, Cps, e1, _⟩ := sl_shape h0.ps
  obtain ⟨Pts, Cts, e2, _⟩ := sl_shape h0.ts
  obtain ⟨Pms, Cms, e3, _⟩ := sl_shape h0.ms
  dsimp only at e1 e2 e3
  subst e1 e2 e3
  clear h0
  have hB0 : Below w.heap.size w w := Below.refl _ _
  go_enter Tryd.func3, Tryd.ntmps3
  go_wp2_with fail
  have hR' := hR.below (hB0.alloc hB0.size (.cells #[.int .i64 k, .slice Pps ps.length Cps, .slice Pts ts.length Cts, .int .i64 b, .int .i64 d, .int .i64 n, .int .i64 e0, .slice Pms ms.length Cms, .string str] 28))
  refine (awake_any _ hR').mono ?_
  rintro e w1 ⟨rfl, hb1⟩
  clear hR'
  have hs1 : Below w.heap.size w w1 := Below.trans (by repeat (first | exact Below.refl _ _ | refine Below.alloc ?_ (by simp <;> omega) _)) (hb1.mono (by simp <;> omega))
  have c_e_0 : w1.cell? ⟨w.heap.size, 0, none⟩ = some (.int .i64 k) := (hb1.cell (by simp <;> omega)).trans (by go_simp)
  have c_e_1 : w1.cell? ⟨w.heap.size, 1, none⟩ = some (.slice Pps ps.length Cps) := (hb1.cell (by simp <;> omega)).trans (by go_simp)
  have c_e_2 : w1.cell? ⟨w.heap.size, 2, none⟩ = some (.slice Pts ts.length Cts) := (hb1.cell (by simp <;> omega)).trans (by go_simp)
  have c_e_3 : w1.cell? ⟨w.heap.size, 3, none⟩ = some (.int .i64 b) := (hb1.cell (by simp <;> omega)).trans (by go_simp)
  have c_e_4 : w1.cell? ⟨w.heap.size, 4, none⟩ = some (.int .i64 d) := (hb1.cell (by simp <;> omega)).trans (by go_simp)
  have c_e_5 : w1.cell? ⟨w.heap.size, 5, none⟩ = some (.int .i64 n) := (hb1.cell (by simp <;> omega)).trans (by go_simp)
  have c_e_6 : w1.cell? ⟨w.heap.size, 6, none⟩ = some (.int .i64 e0) := (hb1.cell (by simp <;> omega)).trans (by go_simp)
  have c_e_7 : w1.cell? ⟨w.heap.size, 7, none⟩ = some (.slice Pms ms.length Cms) := (hb1.cell (by simp <;> omega)).trans (by go_simp)
  have c_e_8 : w1.cell? ⟨w.heap.size, 8, none⟩ = some (.string str) := (hb1.cell (by simp <;> omega)).trans (by go_simp)
  have z_e : w.heap.size < _ := World.block_lt_of_cell? _ _ c_e_0
  have hB1 := below_two hB0 hs1
  clear hB0 hs1 hb1
  go_wp2_with fail
  have hs2 : Below w1.heap.size w1 w1 := by repeat (first | exact Below.refl _ _ | refine Below.alloc ?_ (by simp <;> omega) _)
  replace c_e_0 := cell_later hs2 c_e_0
  replace c_e_1 := cell_later hs2 c_e_1
  replace c_e_2 := cell_later hs2 c_e_2
  replace c_e_3 := cell_later hs2 c_e_3
  replace c_e_4 := cell_later hs2 c_e_4
  replace c_e_5 := cell_later hs2 c_e_5
  replace c_e_6 := cell_later hs2 c_e_6
  replace c_e_7 := cell_later hs2 c_e_7
  replace c_e_8 := cell_later hs2 c_e_8
  have hB2 := below_two hB1 hs2
  clear hB1 hs2
  have y2_e := z_e
  generalize w1 = w2 at *
  clear z_e
  have z_e : w.heap.size < _ := World.block_lt_of_cell? _ _ c_e_0
  go_wp2_with fail
  have hR' := hR.below hB2
  refine (few_is HQ.out _ _ _ _ (HX0.out.later hB2)).mono ?_
  rintro e w3 ⟨rfl, hb3⟩
  clear hR'
  have hs3 := hb3
  replace c_e_0 := cell_later hs3 c_e_0
  replace c_e_1 := cell_later hs3 c_e_1
  replace c_e_2 := cell_later hs3 c_e_2
  replace c_e_3 := cell_later hs3 c_e_3
  replace c_e_4 := cell_later hs3 c_e_4
  replace c_e_5 := cell_later hs3 c_e_5
  replace c_e_6 := cell_later hs3 c_e_6
  replace c_e_7 := cell_later hs3 c_e_7
  replace c_e_8 := cell_later hs3 c_e_8
  clear z_e
  have z_e : w.heap.size < _ := World.block_lt_of_cell? _ _ c_e_0
  have hB3 := below_two hB2 hs3
  clear hB2 hs3
  go_wp2_with fail
  have hR' := hR.below hB3
  refine (elength_no _ _ _ _ _ (HX0.out.later hB3) hR' HR).mono ?_
  rintro e w4 ⟨rfl, hb4⟩
  clear hR'
  have hs4 := hb4
  replace c_e_0 := cell_later hs4 c_e_0
  replace c_e_1 := cell_later hs4 c_e_1
  replace c_e_2 := cell_later hs4 c_e_2
  replace c_e_3 := cell_later hs4 c_e_3
  replace c_e_4 := cell_later hs4 c_e_4
  replace c_e_5 := cell_later hs4 c_e_5
  replace c_e_6 := cell_later hs4 c_e_6
  replace c_e_7 := cell_later hs4 c_e_7
  replace c_e_8 := cell_later hs4 c_e_8
  clear z_e
  have z_e : w.heap.size < _ := World.block_lt_of_cell? _ _ c_e_0
  have hB4 := below_two hB3 hs4
  clear hB3 hs4
  go_wp2_with fail
  have hR' := hR.below (hB4.alloc hB4.size (.cells #[.int .i64 0, .int .i64 0] 32))
  refine (refLen_no _ _ _ _ _ (HX0.out.later (hB4.alloc hB4.size (.cells #[.int .i64 0, .int .i64 0] 32))) HR).mono ?_
  rintro e w5 ⟨rfl, hb5⟩
  clear hR'
  have y5_e := z_e
  have hs5 : Below w4.heap.size w4 w5 := Below.trans (by repeat (first | exact Below.refl _ _ | refine Below.alloc ?_ (by simp <;> omega) _)) (hb5.mono (by simp <;> omega))
  replace c_e_0 := cell_later hs5 c_e_0
  replace c_e_1 := cell_later hs5 c_e_1
  replace c_e_2 := cell_later hs5 c_e_2
  replace c_e_3 := cell_later hs5 c_e_3
  replace c_e_4 := cell_later hs5 c_e_4
  replace c_e_5 := cell_later hs5 c_e_5
  replace c_e_6 := cell_later hs5 c_e_6
  replace c_e_7 := cell_later hs5 c_e_7
  replace c_e_8 := cell_later hs5 c_e_8
  have c_n_0 : w5.cell? ⟨w4.heap.size, 0, none⟩ = some (.int .i64 0) := (hb5.cell (by simp <;> omega)).trans (by go_simp)
  have c_n_1 : w5.cell? ⟨w4.heap.size, 1, none⟩ = some (.int .i64 0) := (hb5.cell (by simp <;> omega)).trans (by go_simp)
  clear z_e
  have z_e : w.heap.size < _ := World.block_lt_of_cell? _ _ c_e_0
  have z_n : w4.heap.size < _ := World.block_lt_of_cell? _ _ c_n_0
  have hB5 := below_two hB4 hs5
  clear hB4 hs5 hb5
  go_wp2_with fail
  have hs6 : Below w5.heap.size w5 (w5.alloc (.cells #[.int .i64 0, .int .i64 0] 32)) := by repeat (first | exact Below.refl _ _ | refine Below.alloc ?_ (by simp <;> omega) _)
  replace c_e_0 := cell_later hs6 c_e_0
  replace c_e_1 := cell_later hs6 c_e_1
  replace c_e_2 := cell_later hs6 c_e_2
  replace c_e_3 := cell_later hs6 c_e_3
  replace c_e_4 := cell_later hs6 c_e_4
  replace c_e_5 := cell_later hs6 c_e_5
  replace c_e_6 := cell_later hs6 c_e_6
  replace c_e_7 := cell_later hs6 c_e_7
  replace c_e_8 := cell_later hs6 c_e_8
  replace c_n_0 := cell_later hs6 c_n_0
  replace c_n_1 := cell_later hs6 c_n_1
  have c_m_0 : (w5.alloc (.cells #[.int .i64 0, .int .i64 0] 32)).cell? ⟨w5.heap.size, 0, none⟩ = some (.int .i64 0) := by go_simp
  have c_m_1 : (w5.alloc (.cells #[.int .i64 0, .int .i64 0] 32)).cell? ⟨w5.heap.size, 1, none⟩ = some (.int .i64 0) := by go_simp
  have hB6 := below_two hB5 hs6
  clear hB5 hs6
  have y6_e := z_e
  have y6_n := z_n
  generalize (w5.alloc (.cells #[.int .i64 0, .int .i64 0] 32)) = w6 at *
  clear z_e
  have z_e : w.heap.size < _ := World.block_lt_of_cell? _ _ c_e_0
  have z_m : w5.heap.size < _ := World.block_lt_of_cell? _ _ c_m_0
  clear z_n
  have z_n : w4.heap.size < _ := World.block_lt_of_cell? _ _ c_n_0
  have QB : Hid (∀ dd os, Below w.heap.size w (Go.Sort.grow (redrawn w6 dd) os)) := Lib.hid (fun dd os => below_two hB6 (below_regrown w6 dd os))
  have g_c_e_0 := fun dd os => cell_regrown c_e_0 dd os
  have g_c_e_1 := fun dd os => cell_regrown c_e_1 dd os
  have g_c_e_2 := fun dd os => cell_regrown c_e_2 dd os
  have g_c_e_3 := fun dd os => cell_regrown c_e_3 dd os
  have g_c_e_4 := fun dd os => cell_regrown c_e_4 dd os
  have g_c_e_5 := fun dd os => cell_regrown c_e_5 dd os
  have g_c_e_6 := fun dd os => cell_regrown c_e_6 dd os
  have g_c_e_7 := fun dd os => cell_regrown c_e_7 dd os
  have g_c_e_8 := fun dd os => cell_regrown c_e_8 dd os
  have g_c_n_0 := fun dd os => cell_regrown c_n_0 dd os
  have g_c_n_1 := fun dd os => cell_regrown c_n_1 dd os
  have g_c_m_0 := fun dd os => cell_regrown c_m_0 dd os
  have g_c_m_1 := fun dd os => cell_regrown c_m_1 dd os
  have q0 : Hid (∀ dd os, Calls Tryd.prog 19 #[.agg #[.int .i64 k, .slice Pps ps.length Cps, .slice Pts ts.length Cts, .int .i64 b, .int .i64 d, .int .i64 n, .int .i64 e0, .slice Pms ms.length Cms, .string str]] (Go.Sort.grow (redrawn w6 dd) os) fun e w'' => e = .returned (.bool false) ∧ ∃ p : Regrown, w'' = Go.Sort.grow (redrawn w6 p.d) p.os) := Lib.hid (fun dd os => Calls.regrown_of (eright_is HR.out _ _ _ _ (HX0.out.later (QB.out dd os)) (hR.below (QB.out dd os))))
  have q1 : Hid (∀ dd os, Calls Tryd.prog 20 #[.agg #[.int .i64 k, .slice Pps ps.length Cps, .slice Pts ts.length Cts, .int .i64 b, .int .i64 d, .int .i64 n, .int .i64 e0, .slice Pms ms.length Cms, .string str]] (Go.Sort.grow (redrawn w6 dd) os) fun e w'' => e = .returned (.bool false) ∧ ∃ p : Regrown, w'' = Go.Sort.grow (redrawn w6 p.d) p.os) := Lib.hid (fun dd os => Calls.regrown_of (refERight_is HR.out _ _ _ _ (HX0.out.later (QB.out dd os))))
  have q2 : Hid (∀ dd os, Calls Tryd.prog 21 #[.agg #[.int .i64 k, .slice Pps ps.length Cps, .slice Pts ts.length Cts, .int .i64 b, .int .i64 d, .int .i64 n, .int .i64 e0, .slice Pms ms.length Cms, .string str]] (Go.Sort.grow (redrawn w6 dd) os) fun e w'' => e = .returned (.bool false) ∧ ∃ p : Regrown, w'' = Go.Sort.grow (redrawn w6 p.d) p.os) := Lib.hid (fun dd os => Calls.regrown_of (tied_is HT.out _ _ _ _ (HX0.out.later (QB.out dd os)) (hR.below (QB.out dd os))))
  have q3 : Hid (∀ dd os, Calls Tryd.prog 22 #[.agg #[.int .i64 k, .slice Pps ps.length Cps, .slice Pts ts.length Cts, .int .i64 b, .int .i64 d, .int .i64 n, .int .i64 e0, .slice Pms ms.length Cms, .string str]] (Go.Sort.grow (redrawn w6 dd) os) fun e w'' => e = .returned (.bool false) ∧ ∃ p : Regrown, w'' = Go.Sort.grow (redrawn w6 p.d) p.os) := Lib.hid (fun dd os => Calls.regrown_of (refTied_is HT.out _ _ _ _ (HX0.out.later (QB.out dd os))))
  refine wp_region_quiet_below (by kernel_rfl) (by kernel_rfl) ?_
  repeat (go_big_quiet_step (first | (go_at_call 19; with_reducible exact q0.out _ _) | (go_at_call 20; with_reducible exact q1.out _ _) | (go_at_call 21; with_reducible exact q2.out _ _) | (go_at_call 22; with_reducible exact q3.out _ _)))
  refine wpQuiet_nil ?_
  intro _ hw'
  obtain ⟨⟨dq, osq⟩, hw''⟩ := hw'
  subst hw''
  replace c_e_0 := g_c_e_0 dq osq
  clear g_c_e_0
  replace c_e_1 := g_c_e_1 dq osq
  clear g_c_e_1
  replace c_e_2 := g_c_e_2 dq osq
  clear g_c_e_2
  replace c_e_3 := g_c_e_3 dq osq
  clear g_c_e_3
  replace c_e_4 := g_c_e_4 dq osq
  clear g_c_e_4
  replace c_e_5 := g_c_e_5 dq osq
  clear g_c_e_5
  replace c_e_6 := g_c_e_6 dq osq
  clear g_c_e_6
  replace c_e_7 := g_c_e_7 dq osq
  clear g_c_e_7
  replace c_e_8 := g_c_e_8 dq osq
  clear g_c_e_8
  replace c_n_0 := g_c_n_0 dq osq
  clear g_c_n_0
  replace c_n_1 := g_c_n_1 dq osq
  clear g_c_n_1
  replace c_m_0 := g_c_m_0 dq osq
  clear g_c_m_0
  replace c_m_1 := g_c_m_1 dq osq
  clear g_c_m_1
  clear q0
  clear q1
  clear q2
  clear q3
  have hB7 := QB.out dq osq
  clear QB hB6 z_e z_m z_n
  generalize Go.Sort.grow (redrawn w6 dq) osq = w7 at *
  have z_e : w.heap.size < _ := World.block_lt_of_cell? _ _ c_e_0
  have z_m : w5.heap.size < _ := World.block_lt_of_cell? _ _ c_m_0
  have z_n : w4.heap.size < _ := World.block_lt_of_cell? _ _ c_n_0
  go_wp2
  go_ret
  exact ⟨rfl, hB7⟩

set_option maxRecDepth 100000 in
set_option maxHeartbeats 40000000 in
theorem rights_true (x : Ev) (vp vt vm : Value) (LN LD : Int) (w : World) (h0 : EvR w vp vt vm x) (hR : Ready w) (hq : fewE x = true) (hr : Evt.right x = true) (ht : Evt.tied x = true) (hn : Val.lenN x.b x.d x.n x.e = LN) (hd : Val.lenD x.b x.d x.n x.e = LD) (he : Val.lenE x.b x.d x.n x.e = 0):
    Calls Tryd.prog 3 #[evv x vp vt vm] w fun ed w' => ed = .returned (.bool true) ∧ Below w.heap.size w w' := by
  have hgR := guardR
  have hgV := guardV
  have heR := eql_rt
  have hsR := eqR_self
  have hsP := eqP_self
  have hgP := guardP
  have heP := eql_pt
  have HQ := Lib.hid hq
  clear hq
  have HR := Lib.hid hr
  clear hr
  have HT := Lib.hid ht
  clear ht
  have HN := Lib.hid hn
  clear hn
  have HD := Lib.hid hd
  clear hd
  have HE := Lib.hid he
  clear he
  obtain ⟨k, ps, ts, b, d, n, e0, ms, str⟩ := x
  have HX0 := Lib.hid h0
  obtain ⟨Pps, Cps, e1, _⟩ := sl_shape h0.ps
  obtain ⟨Pts, Cts, e2, _⟩ := sl_shape h0.ts
  obtain ⟨Pms, Cms, e3, _⟩ := sl_shape h0.ms
  dsimp only at e1 e2 e3
  subst e1 e2 e3
  clear h0
  have hB0 : Below w.heap.size w w := Below.refl _ _
  go_enter Tryd.func3, Tryd.ntmps3
  go_wp2_with fail
  have hR' := hR.below (hB0.alloc hB0.size (.cells #[.int .i64 k, .slice Pps ps.length Cps, .slice Pts ts.length Cts, .int .i64 b, .int .i64 d, .int .i64 n, .int .i64 e0, .slice Pms ms.length Cms, .string str] 28))
  refine (awake_any _ hR').mono ?_
  rintro e w1 ⟨rfl, hb1⟩
  clear hR'
  have hs1 : Below w.heap.size w w1 := Below.trans (by repeat (first | exact Below.refl _ _ | refine Below.alloc ?_ (by simp <;> omega) _)) (hb1.mono (by simp <;> omega))
  have c_e_0 : w1.cell? ⟨w.heap.size, 0, none⟩ = some (.int .i64 k) := (hb1.cell (by simp <;> omega)).trans (by go_simp)
  have c_e_1 : w1.cell? ⟨w.heap.size, 1, none⟩ = some (.slice Pps ps.length Cps) := (hb1.cell (by simp <;> omega)).trans (by go_simp)
  have c_e_2 : w1.cell? ⟨w.heap.size, 2, none⟩ = some (.slice Pts ts.length Cts) := (hb1.cell (by simp <;> omega)).trans (by go_simp)
  have c_e_3 : w1.cell? ⟨w.heap.size, 3, none⟩ = some (.int .i64 b) := (hb1.cell (by simp <;> omega)).trans (by go_simp)
  have c_e_4 : w1.cell? ⟨w.heap.size, 4, none⟩ = some (.int .i64 d) := (hb1.cell (by simp <;> omega)).trans (by go_simp)
  have c_e_5 : w1.cell? ⟨w.heap.size, 5, none⟩ = some (.int .i64 n) := (hb1.cell (by simp <;> omega)).trans (by go_simp)
  have c_e_6 : w1.cell? ⟨w.heap.size, 6, none⟩ = some (.int .i64 e0) := (hb1.cell (by simp <;> omega)).trans (by go_simp)
  have c_e_7 : w1.cell? ⟨w.heap.size, 7, none⟩ = some (.slice Pms ms.length Cms) := (hb1.cell (by simp <;> omega)).trans (by go_simp)
  have c_e_8 : w1.cell? ⟨w.heap.size, 8, none⟩ = some (.string str) := (hb1.cell (by simp <;> omega)).trans (by go_simp)
  have z_e : w.heap.size < _ := World.block_lt_of_cell? _ _ c_e_0
  have hB1 := below_two hB0 hs1
  clear hB0 hs1 hb1
  go_wp2_with fail
  have hs2 : Below w1.heap.size w1 w1 := by repeat (first | exact Below.refl _ _ | refine Below.alloc ?_ (by simp <;> omega) _)
  replace c_e_0 := cell_later hs2 c_e_0
  replace c_e_1 := cell_later hs2 c_e_1
  replace c_e_2 := cell_later hs2 c_e_2
  replace c_e_3 := cell_later hs2 c_e_3
  replace c_e_4 := cell_later hs2 c_e_4
  replace c_e_5 := cell_later hs2 c_e_5
  replace c_e_6 := cell_later hs2 c_e_6
  replace c_e_7 := cell_later hs2 c_e_7
  replace c_e_8 := cell_later hs2 c_e_8
  have hB2 := below_two hB1 hs2
  clear hB1 hs2
  have y2_e := z_e
  generalize w1 = w2 at *
  clear z_e
  have z_e : w.heap.size < _ := World.block_lt_of_cell? _ _ c_e_0
  go_wp2_with fail
  have hR' := hR.below hB2
  refine (few_is HQ.out _ _ _ _ (HX0.out.later hB2)).mono ?_
  rintro e w3 ⟨rfl, hb3⟩
  clear hR'
  have hs3 := hb3
  replace c_e_0 := cell_later hs3 c_e_0
  replace c_e_1 := cell_later hs3 c_e_1
  replace c_e_2 := cell_later hs3 c_e_2
  replace c_e_3 := cell_later hs3 c_e_3
  replace c_e_4 := cell_later hs3 c_e_4
  replace c_e_5 := cell_later hs3 c_e_5
  replace c_e_6 := cell_later hs3 c_e_6
  replace c_e_7 := cell_later hs3 c_e_7
  replace c_e_8 := cell_later hs3 c_e_8
  clear z_e
  have z_e : w.heap.size < _ := World.block_lt_of_cell? _ _ c_e_0
  have hB3 := below_two hB2 hs3
  clear hB2 hs3
  go_wp2_with fail
  have hR' := hR.below hB3
  refine (elength_yes _ _ _ _ _ LN LD 0 (HX0.out.later hB3) hR' HR HN HD HE).mono ?_
  rintro e w4 ⟨rfl, hb4⟩
  clear hR'
  have hs4 := hb4
  replace c_e_0 := cell_later hs4 c_e_0
  replace c_e_1 := cell_later hs4 c_e_1
  replace c_e_2 := cell_later hs4 c_e_2
  replace c_e_3 := cell_later hs4 c_e_3
  replace c_e_4 := cell_later hs4 c_e_4
  replace c_e_5 := cell_later hs4 c_e_5
  replace c_e_6 := cell_later hs4 c_e_6
  replace c_e_7 := cell_later hs4 c_e_7
  replace c_e_8 := cell_later hs4 c_e_8
  clear z_e
  have z_e : w.heap.size < _ := World.block_lt_of_cell? _ _ c_e_0
  have hB4 := below_two hB3 hs4
  clear hB3 hs4
  go_wp2_with fail
  have hR' := hR.below (hB4.alloc hB4.size (.cells #[.int .i64 LN, .int .i64 LD] 32))
  refine (refLen_yes _ _ _ _ LN LD 0 _ (HX0.out.later (hB4.alloc hB4.size (.cells #[.int .i64 LN, .int .i64 LD] 32))) HR HN HD HE).mono ?_
  rintro e w5 ⟨rfl, hb5⟩
  clear hR'
  have y5_e := z_e
  have hs5 : Below w4.heap.size w4 w5 := Below.trans (by repeat (first | exact Below.refl _ _ | refine Below.alloc ?_ (by simp <;> omega) _)) (hb5.mono (by simp <;> omega))
  replace c_e_0 := cell_later hs5 c_e_0
  replace c_e_1 := cell_later hs5 c_e_1
  replace c_e_2 := cell_later hs5 c_e_2
  replace c_e_3 := cell_later hs5 c_e_3
  replace c_e_4 := cell_later hs5 c_e_4
  replace c_e_5 := cell_later hs5 c_e_5
  replace c_e_6 := cell_later hs5 c_e_6
  replace c_e_7 := cell_later hs5 c_e_7
  replace c_e_8 := cell_later hs5 c_e_8
  have c_n_0 : w5.cell? ⟨w4.heap.size, 0, none⟩ = some (.int .i64 LN) := (hb5.cell (by simp <;> omega)).trans (by go_simp)
  have c_n_1 : w5.cell? ⟨w4.heap.size, 1, none⟩ = some (.int .i64 LD) := (hb5.cell (by simp <;> omega)).trans (by go_simp)
  clear z_e
  have z_e : w.heap.size < _ := World.block_lt_of_cell? _ _ c_e_0
  have z_n : w4.heap.size < _ := World.block_lt_of_cell? _ _ c_n_0
  have hB5 := below_two hB4 hs5
  clear hB4 hs5 hb5
  go_wp2_with fail
  have hs6 : Below w5.heap.size w5 (w5.alloc (.cells #[.int .i64 LN, .int .i64 LD] 32)) := by repeat (first | exact Below.refl _ _ | refine Below.alloc ?_ (by simp <;> omega) _)
  replace c_e_0 := cell_later hs6 c_e_0
  replace c_e_1 := cell_later hs6 c_e_1
  replace c_e_2 := cell_later hs6 c_e_2
  replace c_e_3 := cell_later hs6 c_e_3
  replace c_e_4 := cell_later hs6 c_e_4
  replace c_e_5 := cell_later hs6 c_e_5
  replace c_e_6 := cell_later hs6 c_e_6
  replace c_e_7 := cell_later hs6 c_e_7
  replace c_e_8 := cell_later hs6 c_e_8
  replace c_n_0 := cell_later hs6 c_n_0
  replace c_n_1 := cell_later hs6 c_n_1
  have c_m_0 : (w5.alloc (.cells #[.int .i64 LN, .int .i64 LD] 32)).cell? ⟨w5.heap.size, 0, none⟩ = some (.int .i64 LN) := by go_simp
  have c_m_1 : (w5.alloc (.cells #[.int .i64 LN, .int .i64 LD] 32)).cell? ⟨w5.heap.size, 1, none⟩ = some (.int .i64 LD) := by go_simp
  have hB6 := below_two hB5 hs6
  clear hB5 hs6
  have y6_e := z_e
  have y6_n := z_n
  generalize (w5.alloc (.cells #[.int .i64 LN, .int .i64 LD] 32)) = w6 at *
  clear z_e
  have z_e : w.heap.size < _ := World.block_lt_of_cell? _ _ c_e_0
  have z_m : w5.heap.size < _ := World.block_lt_of_cell? _ _ c_m_0
  clear z_n
  have z_n : w4.heap.size < _ := World.block_lt_of_cell? _ _ c_n_0
  have QB : Hid (∀ dd os, Below w.heap.size w (Go.Sort.grow (redrawn w6 dd) os)) := Lib.hid (fun dd os => below_two hB6 (below_regrown w6 dd os))
  have g_c_e_0 := fun dd os => cell_regrown c_e_0 dd os
  have g_c_e_1 := fun dd os => cell_regrown c_e_1 dd os
  have g_c_e_2 := fun dd os => cell_regrown c_e_2 dd os
  have g_c_e_3 := fun dd os => cell_regrown c_e_3 dd os
  have g_c_e_4 := fun dd os => cell_regrown c_e_4 dd os
  have g_c_e_5 := fun dd os => cell_regrown c_e_5 dd os
  have g_c_e_6 := fun dd os => cell_regrown c_e_6 dd os
  have g_c_e_7 := fun dd os => cell_regrown c_e_7 dd os
  have g_c_e_8 := fun dd os => cell_regrown c_e_8 dd os
  have g_c_n_0 := fun dd os => cell_regrown c_n_0 dd os
  have g_c_n_1 := fun dd os => cell_regrown c_n_1 dd os
  have g_c_m_0 := fun dd os => cell_regrown c_m_0 dd os
  have g_c_m_1 := fun dd os => cell_regrown c_m_1 dd os
  have q0 : Hid (∀ dd os, Calls Tryd.prog 19 #[.agg #[.int .i64 k, .slice Pps ps.length Cps, .slice Pts ts.length Cts, .int .i64 b, .int .i64 d, .int .i64 n, .int .i64 e0, .slice Pms ms.length Cms, .string str]] (Go.Sort.grow (redrawn w6 dd) os) fun e w'' => e = .returned (.bool true) ∧ ∃ p : Regrown, w'' = Go.Sort.grow (redrawn w6 p.d) p.os) := Lib.hid (fun dd os => Calls.regrown_of (eright_is HR.out _ _ _ _ (HX0.out.later (QB.out dd os)) (hR.below (QB.out dd os))))
  have q1 : Hid (∀ dd os, Calls Tryd.prog 20 #[.agg #[.int .i64 k, .slice Pps ps.length Cps, .slice Pts ts.length Cts, .int .i64 b, .int .i64 d, .int .i64 n, .int .i64 e0, .slice Pms ms.length Cms, .string str]] (Go.Sort.grow (redrawn w6 dd) os) fun e w'' => e = .returned (.bool true) ∧ ∃ p : Regrown, w'' = Go.Sort.grow (redrawn w6 p.d) p.os) := Lib.hid (fun dd os => Calls.regrown_of (refERight_is HR.out _ _ _ _ (HX0.out.later (QB.out dd os))))
  have q2 : Hid (∀ dd os, Calls Tryd.prog 21 #[.agg #[.int .i64 k, .slice Pps ps.length Cps, .slice Pts ts.length Cts, .int .i64 b, .int .i64 d, .int .i64 n, .int .i64 e0, .slice Pms ms.length Cms, .string str]] (Go.Sort.grow (redrawn w6 dd) os) fun e w'' => e = .returned (.bool true) ∧ ∃ p : Regrown, w'' = Go.Sort.grow (redrawn w6 p.d) p.os) := Lib.hid (fun dd os => Calls.regrown_of (tied_is HT.out _ _ _ _ (HX0.out.later (QB.out dd os)) (hR.below (QB.out dd os))))
  have q3 : Hid (∀ dd os, Calls Tryd.prog 22 #[.agg #[.int .i64 k, .slice Pps ps.length Cps, .slice Pts ts.length Cts, .int .i64 b, .int .i64 d, .int .i64 n, .int .i64 e0, .slice Pms ms.length Cms, .string str]] (Go.Sort.grow (redrawn w6 dd) os) fun e w'' => e = .returned (.bool true) ∧ ∃ p : Regrown, w'' = Go.Sort.grow (redrawn w6 p.d) p.os) := Lib.hid (fun dd os => Calls.regrown_of (refTied_is HT.out _ _ _ _ (HX0.out.later (QB.out dd os))))
  refine wp_region_quiet_below (by kernel_rfl) (by kernel_rfl) ?_
  repeat (go_big_quiet_step (first | (go_at_call 19; with_reducible exact q0.out _ _) | (go_at_call 20; with_reducible exact q1.out _ _) | (go_at_call 21; with_reducible exact q2.out _ _) | (go_at_call 22; with_reducible exact q3.out _ _)))
  refine wpQuiet_nil ?_
  intro _ hw'
  obtain ⟨⟨dq, osq⟩, hw''⟩ := hw'
  subst hw''
  replace c_e_0 := g_c_e_0 dq osq
  clear g_c_e_0
  replace c_e_1 := g_c_e_1 dq osq
  clear g_c_e_1
  replace c_e_2 := g_c_e_2 dq osq
  clear g_c_e_2
  replace c_e_3 := g_c_e_3 dq osq
  clear g_c_e_3
  replace c_e_4 := g_c_e_4 dq osq
  clear g_c_e_4
  replace c_e_5 := g_c_e_5 dq osq
  clear g_c_e_5
  replace c_e_6 := g_c_e_6 dq osq
  clear g_c_e_6
  replace c_e_7 := g_c_e_7 dq osq
  clear g_c_e_7
  replace c_e_8 := g_c_e_8 dq osq
  clear g_c_e_8
  replace c_n_0 := g_c_n_0 dq osq
  clear g_c_n_0
  replace c_n_1 := g_c_n_1 dq osq
  clear g_c_n_1
  replace c_m_0 := g_c_m_0 dq osq
  clear g_c_m_0
  replace c_m_1 := g_c_m_1 dq osq
  clear g_c_m_1
  clear q0
  clear q1
  clear q2
  clear q3
  have hB7 := QB.out dq osq
  clear QB hB6 z_e z_m z_n
  generalize Go.Sort.grow (redrawn w6 dq) osq = w7 at *
  have z_e : w.heap.size < _ := World.block_lt_of_cell? _ _ c_e_0
  have z_m : w5.heap.size < _ := World.block_lt_of_cell? _ _ c_m_0
  have z_n : w4.heap.size < _ := World.block_lt_of_cell? _ _ c_n_0
  go_wp2
  go_ret
  exact ⟨rfl, hB7⟩

set_option maxRecDepth 100000 in
set_option maxHeartbeats 40000000 in
theorem rights_false (x : Ev) (vp vt vm : Value) (LN LD : Int) (w : World) (h0 : EvR w vp vt vm x) (hR : Ready w) (hq : fewE x = true) (hr : Evt.right x = true) (ht : Evt.tied x = false) (hn : Val.lenN x.b x.d x.n x.e = LN) (hd : Val.lenD x.b x.d x.n x.e = LD) (he : Val.lenE x.b x.d x.n x.e = 0):
    Calls Tryd.prog 3 #[evv x vp vt vm] w fun ed w' => ed = .returned (.bool true) ∧ Below w.heap.size w w' := by
  have hgR := guardR
  have hgV := guardV
  have heR := eql_rt
  have hsR := eqR_self
  have hsP := eqP_self
  have hgP := guardP
  have heP := eql_pt
  have HQ := Lib.hid hq
  clear hq
  have HR := Lib.hid hr
  clear hr
  have HT := Lib.hid ht
  clear ht
  have HN := Lib.hid hn
  clear hn
  have HD := Lib.hid hd
  clear hd
  have HE := Lib.hid he
  clear he
  obtain ⟨k, ps, ts, b, d, n, e0, ms, str⟩ := x
  have HX0 := Lib.hid h0
  obtain ⟨Pps, Cps, e1, _⟩ := sl_shape h0.ps
  obtain ⟨Pts, Cts, e2, _⟩ := sl_shape h0.ts
  obtain ⟨Pms, Cms, e3, _⟩ := sl_shape h0.ms
  dsimp only at e1 e2 e3
  subst e1 e2 e3
  clear h0
  have hB0 : Below w.heap.size w w := Below.refl _ _
  go_enter Tryd.func3, Tryd.ntmps3
  go_wp2_with fail
  have hR' := hR.below (hB0.alloc hB0.size (.cells #[.int .i64 k, .slice Pps ps.length Cps, .slice Pts ts.length Cts, .int .i64 b, .int .i64 d, .int .i64 n, .int .i64 e0, .slice Pms ms.length Cms, .string str] 28))
  refine (awake_any _ hR').mono ?_
  rintro e w1 ⟨rfl, hb1⟩
  clear hR'
  have hs1 : Below w.heap.size w w1 := Below.trans (by repeat (first | exact Below.refl _ _ | refine Below.alloc ?_ (by simp <;> omega) _)) (hb1.mono (by simp <;> omega))
  have c_e_0 : w1.cell? ⟨w.heap.size, 0, none⟩ = some (.int .i64 k) := (hb1.cell (by simp <;> omega)).trans (by go_simp)
  have c_e_1 : w1.cell? ⟨w.heap.size, 1, none⟩ = some (.slice Pps ps.length Cps) := (hb1.cell (by simp <;> omega)).trans (by go_simp)
  have c_e_2 : w1.cell? ⟨w.heap.size, 2, none⟩ = some (.slice Pts ts.length Cts) := (hb1.cell (by simp <;> omega)).trans (by go_simp)
  have c_e_3 : w1.cell? ⟨w.heap.size, 3, none⟩ = some (.int .i64 b) := (hb1.cell (by simp <;> omega)).trans (by go_simp)
  have c_e_4 : w1.cell? ⟨w.heap.size, 4, none⟩ = some (.int .i64 d) := (hb1.cell (by simp <;> omega)).trans (by go_simp)
  have c_e_5 : w1.cell? ⟨w.heap.size, 5, none⟩ = some (.int .i64 n) := (hb1.cell (by simp <;> omega)).trans (by go_simp)
  have c_e_6 : w1.cell? ⟨w.heap.size, 6, none⟩ = some (.int .i64 e0) := (hb1.cell (by simp <;> omega)).trans (by go_simp)
  have c_e_7 : w1.cell? ⟨w.heap.size, 7, none⟩ = some (.slice Pms ms.length Cms) := (hb1.cell (by simp <;> omega)).trans (by go_simp)
  have c_e_8 : w1.cell? ⟨w.heap.size, 8, none⟩ = some (.string str) := (hb1.cell (by simp <;> omega)).trans (by go_simp)
  have z_e : w.heap.size < _ := World.block_lt_of_cell? _ _ c_e_0
  have hB1 := below_two hB0 hs1
  clear hB0 hs1 hb1
  go_wp2_with fail
  have hs2 : Below w1.heap.size w1 w1 := by repeat (first | exact Below.refl _ _ | refine Below.alloc ?_ (by simp <;> omega) _)
  replace c_e_0 := cell_later hs2 c_e_0
  replace c_e_1 := cell_later hs2 c_e_1
  replace c_e_2 := cell_later hs2 c_e_2
  replace c_e_3 := cell_later hs2 c_e_3
  replace c_e_4 := cell_later hs2 c_e_4
  replace c_e_5 := cell_later hs2 c_e_5
  replace c_e_6 := cell_later hs2 c_e_6
  replace c_e_7 := cell_later hs2 c_e_7
  replace c_e_8 := cell_later hs2 c_e_8
  have hB2 := below_two hB1 hs2
  clear hB1 hs2
  have y2_e := z_e
  generalize w1 = w2 at *
  clear z_e
  have z_e : w.heap.size < _ := World.block_lt_of_cell? _ _ c_e_0
  go_wp2_with fail
  have hR' := hR.below hB2
  refine (few_is HQ.out _ _ _ _ (HX0.out.later hB2)).mono ?_
  rintro e w3 ⟨rfl, hb3⟩
  clear hR'
  have hs3 := hb3
  replace c_e_0 := cell_later hs3 c_e_0
  replace c_e_1 := cell_later hs3 c_e_1
  replace c_e_2 := cell_later hs3 c_e_2
  replace c_e_3 := cell_later hs3 c_e_3
  replace c_e_4 := cell_later hs3 c_e_4
  replace c_e_5 := cell_later hs3 c_e_5
  replace c_e_6 := cell_later hs3 c_e_6
  replace c_e_7 := cell_later hs3 c_e_7
  replace c_e_8 := cell_later hs3 c_e_8
  clear z_e
  have z_e : w.heap.size < _ := World.block_lt_of_cell? _ _ c_e_0
  have hB3 := below_two hB2 hs3
  clear hB2 hs3
  go_wp2_with fail
  have hR' := hR.below hB3
  refine (elength_yes _ _ _ _ _ LN LD 0 (HX0.out.later hB3) hR' HR HN HD HE).mono ?_
  rintro e w4 ⟨rfl, hb4⟩
  clear hR'
  have hs4 := hb4
  replace c_e_0 := cell_later hs4 c_e_0
  replace c_e_1 := cell_later hs4 c_e_1
  replace c_e_2 := cell_later hs4 c_e_2
  replace c_e_3 := cell_later hs4 c_e_3
  replace c_e_4 := cell_later hs4 c_e_4
  replace c_e_5 := cell_later hs4 c_e_5
  replace c_e_6 := cell_later hs4 c_e_6
  replace c_e_7 := cell_later hs4 c_e_7
  replace c_e_8 := cell_later hs4 c_e_8
  clear z_e
  have z_e : w.heap.size < _ := World.block_lt_of_cell? _ _ c_e_0
  have hB4 := below_two hB3 hs4
  clear hB3 hs4
  go_wp2_with fail
  have hR' := hR.below (hB4.alloc hB4.size (.cells #[.int .i64 LN, .int .i64 LD] 32))
  refine (refLen_yes _ _ _ _ LN LD 0 _ (HX0.out.later (hB4.alloc hB4.size (.cells #[.int .i64 LN, .int .i64 LD] 32))) HR HN HD HE).mono ?_
  rintro e w5 ⟨rfl, hb5⟩
  clear hR'
  have y5_e := z_e
  have hs5 : Below w4.heap.size w4 w5 := Below.trans (by repeat (first | exact Below.refl _ _ | refine Below.alloc ?_ (by simp <;> omega) _)) (hb5.mono (by simp <;> omega))
  replace c_e_0 := cell_later hs5 c_e_0
  replace c_e_1 := cell_later hs5 c_e_1
  replace c_e_2 := cell_later hs5 c_e_2
  replace c_e_3 := cell_later hs5 c_e_3
  replace c_e_4 := cell_later hs5 c_e_4
  replace c_e_5 := cell_later hs5 c_e_5
  replace c_e_6 := cell_later hs5 c_e_6
  replace c_e_7 := cell_later hs5 c_e_7
  replace c_e_8 := cell_later hs5 c_e_8
  have c_n_0 : w5.cell? ⟨w4.heap.size, 0, none⟩ = some (.int .i64 LN) := (hb5.cell (by simp <;> omega)).trans (by go_simp)
  have c_n_1 : w5.cell? ⟨w4.heap.size, 1, none⟩ = some (.int .i64 LD) := (hb5.cell (by simp <;> omega)).trans (by go_simp)
  clear z_e
  have z_e : w.heap.size < _ := World.block_lt_of_cell? _ _ c_e_0
  have z_n : w4.heap.size < _ := World.block_lt_of_cell? _ _ c_n_0
  have hB5 := below_two hB4 hs5
  clear hB4 hs5 hb5
  go_wp2_with fail
  have hs6 : Below w5.heap.size w5 (w5.alloc (.cells #[.int .i64 LN, .int .i64 LD] 32)) := by repeat (first | exact Below.refl _ _ | refine Below.alloc ?_ (by simp <;> omega) _)
  replace c_e_0 := cell_later hs6 c_e_0
  replace c_e_1 := cell_later hs6 c_e_1
  replace c_e_2 := cell_later hs6 c_e_2
  replace c_e_3 := cell_later hs6 c_e_3
  replace c_e_4 := cell_later hs6 c_e_4
  replace c_e_5 := cell_later hs6 c_e_5
  replace c_e_6 := cell_later hs6 c_e_6
  replace c_e_7 := cell_later hs6 c_e_7
  replace c_e_8 := cell_later hs6 c_e_8
  replace c_n_0 := cell_later hs6 c_n_0
  replace c_n_1 := cell_later hs6 c_n_1
  have c_m_0 : (w5.alloc (.cells #[.int .i64 LN, .int .i64 LD] 32)).cell? ⟨w5.heap.size, 0, none⟩ = some (.int .i64 LN) := by go_simp
  have c_m_1 : (w5.alloc (.cells #[.int .i64 LN, .int .i64 LD] 32)).cell? ⟨w5.heap.size, 1, none⟩ = some (.int .i64 LD) := by go_simp
  have hB6 := below_two hB5 hs6
  clear hB5 hs6
  have y6_e := z_e
  have y6_n := z_n
  generalize (w5.alloc (.cells #[.int .i64 LN, .int .i64 LD] 32)) = w6 at *
  clear z_e
  have z_e : w.heap.size < _ := World.block_lt_of_cell? _ _ c_e_0
  have z_m : w5.heap.size < _ := World.block_lt_of_cell? _ _ c_m_0
  clear z_n
  have z_n : w4.heap.size < _ := World.block_lt_of_cell? _ _ c_n_0
  have QB : Hid (∀ dd os, Below w.heap.size w (Go.Sort.grow (redrawn w6 dd) os)) := Lib.hid (fun dd os => below_two hB6 (below_regrown w6 dd os))
  have g_c_e_0 := fun dd os => cell_regrown c_e_0 dd os
  have g_c_e_1 := fun dd os => cell_regrown c_e_1 dd os
  have g_c_e_2 := fun dd os => cell_regrown c_e_2 dd os
  have g_c_e_3 := fun dd os => cell_regrown c_e_3 dd os
  have g_c_e_4 := fun dd os => cell_regrown c_e_4 dd os
  have g_c_e_5 := fun dd os => cell_regrown c_e_5 dd os
  have g_c_e_6 := fun dd os => cell_regrown c_e_6 dd os
  have g_c_e_7 := fun dd os => cell_regrown c_e_7 dd os
  have g_c_e_8 := fun dd os => cell_regrown c_e_8 dd os
  have g_c_n_0 := fun dd os => cell_regrown c_n_0 dd os
  have g_c_n_1 := fun dd os => cell_regrown c_n_1 dd os
  have g_c_m_0 := fun dd os => cell_regrown c_m_0 dd os
  have g_c_m_1 := fun dd os => cell_regrown c_m_1 dd os
  have q0 : Hid (∀ dd os, Calls Tryd.prog 19 #[.agg #[.int .i64 k, .slice Pps ps.length Cps, .slice Pts ts.length Cts, .int .i64 b, .int .i64 d, .int .i64 n, .int .i64 e0, .slice Pms ms.length Cms, .string str]] (Go.Sort.grow (redrawn w6 dd) os) fun e w'' => e = .returned (.bool true) ∧ ∃ p : Regrown, w'' = Go.Sort.grow (redrawn w6 p.d) p.os) := Lib.hid (fun dd os => Calls.regrown_of (eright_is HR.out _ _ _ _ (HX0.out.later (QB.out dd os)) (hR.below (QB.out dd os))))
  have q1 : Hid (∀ dd os, Calls Tryd.prog 20 #[.agg #[.int .i64 k, .slice Pps ps.length Cps, .slice Pts ts.length Cts, .int .i64 b, .int .i64 d, .int .i64 n, .int .i64 e0, .slice Pms ms.length Cms, .string str]] (Go.Sort.grow (redrawn w6 dd) os) fun e w'' => e = .returned (.bool true) ∧ ∃ p : Regrown, w'' = Go.Sort.grow (redrawn w6 p.d) p.os) := Lib.hid (fun dd os => Calls.regrown_of (refERight_is HR.out _ _ _ _ (HX0.out.later (QB.out dd os))))
  have q2 : Hid (∀ dd os, Calls Tryd.prog 21 #[.agg #[.int .i64 k, .slice Pps ps.length Cps, .slice Pts ts.length Cts, .int .i64 b, .int .i64 d, .int .i64 n, .int .i64 e0, .slice Pms ms.length Cms, .string str]] (Go.Sort.grow (redrawn w6 dd) os) fun e w'' => e = .returned (.bool false) ∧ ∃ p : Regrown, w'' = Go.Sort.grow (redrawn w6 p.d) p.os) := Lib.hid (fun dd os => Calls.regrown_of (tied_is HT.out _ _ _ _ (HX0.out.later (QB.out dd os)) (hR.below (QB.out dd os))))
  have q3 : Hid (∀ dd os, Calls Tryd.prog 22 #[.agg #[.int .i64 k, .slice Pps ps.length Cps, .slice Pts ts.length Cts, .int .i64 b, .int .i64 d, .int .i64 n, .int .i64 e0, .slice Pms ms.length Cms, .string str]] (Go.Sort.grow (redrawn w6 dd) os) fun e w'' => e = .returned (.bool false) ∧ ∃ p : Regrown, w'' = Go.Sort.grow (redrawn w6 p.d) p.os) := Lib.hid (fun dd os => Calls.regrown_of (refTied_is HT.out _ _ _ _ (HX0.out.later (QB.out dd os))))
  refine wp_region_quiet_below (by kernel_rfl) (by kernel_rfl) ?_
  repeat (go_big_quiet_step (first | (go_at_call 19; with_reducible exact q0.out _ _) | (go_at_call 20; with_reducible exact q1.out _ _) | (go_at_call 21; with_reducible exact q2.out _ _) | (go_at_call 22; with_reducible exact q3.out _ _)))
  refine wpQuiet_nil ?_
  intro _ hw'
  obtain ⟨⟨dq, osq⟩, hw''⟩ := hw'
  subst hw''
  replace c_e_0 := g_c_e_0 dq osq
  clear g_c_e_0
  replace c_e_1 := g_c_e_1 dq osq
  clear g_c_e_1
  replace c_e_2 := g_c_e_2 dq osq
  clear g_c_e_2
  replace c_e_3 := g_c_e_3 dq osq
  clear g_c_e_3
  replace c_e_4 := g_c_e_4 dq osq
  clear g_c_e_4
  replace c_e_5 := g_c_e_5 dq osq
  clear g_c_e_5
  replace c_e_6 := g_c_e_6 dq osq
  clear g_c_e_6
  replace c_e_7 := g_c_e_7 dq osq
  clear g_c_e_7
  replace c_e_8 := g_c_e_8 dq osq
  clear g_c_e_8
  replace c_n_0 := g_c_n_0 dq osq
  clear g_c_n_0
  replace c_n_1 := g_c_n_1 dq osq
  clear g_c_n_1
  replace c_m_0 := g_c_m_0 dq osq
  clear g_c_m_0
  replace c_m_1 := g_c_m_1 dq osq
  clear g_c_m_1
  clear q0
  clear q1
  clear q2
  clear q3
  have hB7 := QB.out dq osq
  clear QB hB6 z_e z_m z_n
  generalize Go.Sort.grow (redrawn w6 dq) osq = w7 at *
  have z_e : w.heap.size < _ := World.block_lt_of_cell? _ _ c_e_0
  have z_m : w5.heap.size < _ := World.block_lt_of_cell? _ _ c_m_0
  have z_n : w4.heap.size < _ := World.block_lt_of_cell? _ _ c_n_0
  go_wp2
  go_ret
  exact ⟨rfl, hB7⟩

theorem rights_any (x : Ev) (vp vt vm : Value) (w : World) (h : EvR w vp vt vm x) (hR : Ready w) : Calls Tryd.prog 3 #[evv x vp vt vm] w fun ed w' => ed = .returned (.bool true) ∧ Below w.heap.size w w' := by
  cases hq : fewE x
  · exact rights_few x vp vt vm w h hR hq
  cases hr : Evt.right x
  · exact rights_no x vp vt vm w h hR hq hr (by unfold Evt.tied; rw [hr]; rfl)
  have he : Val.lenE x.b x.d x.n x.e = 0 := by unfold Val.lenE; rw [Evt.right_ok hr]; rfl
  cases ht : Evt.tied x
  · exact rights_false x vp vt vm _ _ w h hR hq hr ht rfl rfl he
  · exact rights_true x vp vt vm _ _ w h hR hq hr ht rfl rfl he
end Go.Proofs.YtoiankbopjaamaaDoor
