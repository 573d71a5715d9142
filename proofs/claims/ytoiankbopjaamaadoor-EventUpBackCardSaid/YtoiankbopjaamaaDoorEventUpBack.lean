/-
  EventUpBack answers true: the law's walk.
-/
import Derived.Test.YtoiankbopjaamaaDoorEvLaw
namespace Go.Proofs.YtoiankbopjaamaaDoor
open Go.RowKit
open Evt (P3 Ev)

set_option maxRecDepth 100000 in
set_option maxHeartbeats 40000000 in
theorem upBack_few (x : Ev) (vp vt vm : Value) (S H : Int) (w : World) (h0 : EvR w vp vt vm x) (hR : Ready w) (hq : fewE x = false):
    Calls Tryd.prog 7 #[evv x vp vt vm, iv S H] w fun ed w' => ed = .returned (.bool true) ∧ Below w.heap.size w w' := by
  have hgR := guardR
  have hgV := guardV
  have heR := eql_rt
  have hgP := guardP
  have heP := eql_pt
  have HQ := Lib.hid hq
  clear hq
  obtain ⟨k, ps, ts, b, d, n, e0, ms, str⟩ := x
  have HX0 := Lib.hid h0
  obtain ⟨Pps, Cps, e1, _⟩ := sl_shape h0.ps
  obtain ⟨Pts, Cts, e2, _⟩ := sl_shape h0.ts
  obtain ⟨Pms, Cms, e3, _⟩ := sl_shape h0.ms
  dsimp only at e1 e2 e3
  subst e1 e2 e3
  clear h0
  have hB0 : Below w.heap.size w w := Below.refl _ _
  go_enter Tryd.func7, Tryd.ntmps7
  go_wp2_with fail
  have hR' := hR.below ((hB0.alloc hB0.size (.cells #[.int .i64 k, .slice Pps ps.length Cps, .slice Pts ts.length Cts, .int .i64 b, .int .i64 d, .int .i64 n, .int .i64 e0, .slice Pms ms.length Cms, .string str] 28)).alloc (hB0.alloc hB0.size (.cells #[.int .i64 k, .slice Pps ps.length Cps, .slice Pts ts.length Cts, .int .i64 b, .int .i64 d, .int .i64 n, .int .i64 e0, .slice Pms ms.length Cms, .string str] 28)).size (.cells #[.int .i64 S, .int .i64 H] 38))
  refine (awake_any _ hR').mono ?_
  rintro e w1 ⟨rfl, hb1⟩
  clear hR'
  have hs1 : Below w.heap.size w w1 := Below.trans (by repeat (first | exact Below.refl _ _ | refine Below.alloc ?_ (by simp <;> omega) _)) (hb1.mono (by simp <;> omega))
  have c_e_0 : w1.cell? ⟨w.heap.size, 0, none⟩ = some (.int .i64 k) := (hb1.cell (by simp <;> omega)).trans (by go_simp)
  have c_e_1 : w1.cell? ⟨w.heap.size, 1, none⟩ = some (.slice Pps ps.length Cps) := (hb1.cell (by simp <;> omega)).trans (by go_simp)
  have c_e_2 : w1.cell? ⟨w.heap.size, 2, none⟩ = some (.slice Pts ts.length Cts) := (hb1.cell (by simp <;> omega)).trans (by go_simp)
  have c_e_3 : w1.cell? ⟨w.heap.size, 3, none⟩ = some (.int .i64 b) := (hb1.cell (by simp <;> omega)).trans (by go_simp)
  have c_e_4 : w1.cell? ⟨w.heap.size, 4, none⟩ = some (.int .i64 d) := (hb1.cell (by simp <;> omega)).trans (by go_simp)
  have c_e_5 : w1.cell? ⟨w.heap.size, 5, none⟩ = some (.int .i64 n) := (hb1.cell (by simp <;> omega)).trans (by go_simp)
  have c_e_6 : w1.cell? ⟨w.heap.size, 6, none⟩ = some (.int .i64 e0) := (hb1.cell (by simp <;> omega)).trans (by go_simp)
  have c_e_7 : w1.cell? ⟨w.heap.size, 7, none⟩ = some (.slice Pms ms.length Cms) := (hb1.cell (by simp <;> omega)).trans (by go_simp)
  have c_e_8 : w1.cell? ⟨w.heap.size, 8, none⟩ = some (.string str) := (hb1.cell (by simp <;> omega)).trans (by go_simp)
  have c_g_0 : w1.cell? ⟨w.heap.size + 1, 0, none⟩ = some (.int .i64 S) := (hb1.cell (by simp <;> omega)).trans (by go_simp)
  have c_g_1 : w1.cell? ⟨w.heap.size + 1, 1, none⟩ = some (.int .i64 H) := (hb1.cell (by simp <;> omega)).trans (by go_simp)
  have z_e : w.heap.size < _ := World.block_lt_of_cell? _ _ c_e_0
  have z_g : w.heap.size + 1 < _ := World.block_lt_of_cell? _ _ c_g_0
  have hB1 := below_two hB0 hs1
  clear hB0 hs1 hb1
  go_wp2_with fail
  have hs2 : Below w1.heap.size w1 w1 := by repeat (first | exact Below.refl _ _ | refine Below.alloc ?_ (by simp <;> omega) _)
  replace c_e_0 := cell_later hs2 c_e_0
  replace c_e_1 := cell_later hs2 c_e_1
  replace c_e_2 := cell_later hs2 c_e_2
  replace c_e_3 := cell_later hs2 c_e_3
  replace c_e_4 := cell_later hs2 c_e_4
  replace c_e_5 := cell_later hs2 c_e_5
  replace c_e_6 := cell_later hs2 c_e_6
  replace c_e_7 := cell_later hs2 c_e_7
  replace c_e_8 := cell_later hs2 c_e_8
  replace c_g_0 := cell_later hs2 c_g_0
  replace c_g_1 := cell_later hs2 c_g_1
  have hB2 := below_two hB1 hs2
  clear hB1 hs2
  have y2_e := z_e
  have y2_g := z_g
  generalize w1 = w2 at *
  clear z_e
  have z_e : w.heap.size < _ := World.block_lt_of_cell? _ _ c_e_0
  clear z_g
  have z_g : w.heap.size + 1 < _ := World.block_lt_of_cell? _ _ c_g_0
  go_wp2_with fail
  have hR' := hR.below hB2
  refine (few_is HQ.out _ _ _ _ (HX0.out.later hB2)).mono ?_
  rintro e w3 ⟨rfl, hb3⟩
  clear hR'
  have hs3 := hb3
  replace c_e_0 := cell_later hs3 c_e_0
  replace c_e_1 := cell_later hs3 c_e_1
  replace c_e_2 := cell_later hs3 c_e_2
  replace c_e_3 := cell_later hs3 c_e_3
  replace c_e_4 := cell_later hs3 c_e_4
  replace c_e_5 := cell_later hs3 c_e_5
  replace c_e_6 := cell_later hs3 c_e_6
  replace c_e_7 := cell_later hs3 c_e_7
  replace c_e_8 := cell_later hs3 c_e_8
  replace c_g_0 := cell_later hs3 c_g_0
  replace c_g_1 := cell_later hs3 c_g_1
  clear z_e
  have z_e : w.heap.size < _ := World.block_lt_of_cell? _ _ c_e_0
  clear z_g
  have z_g : w.heap.size + 1 < _ := World.block_lt_of_cell? _ _ c_g_0
  have hB3 := below_two hB2 hs3
  clear hB2 hs3
  go_wp2
  go_ret
  exact ⟨rfl, hB3⟩

set_option maxRecDepth 100000 in
set_option maxHeartbeats 40000000 in
theorem upBack_bad (x : Ev) (vp vt vm : Value) (S H : Int) (er : Int) (w : World) (h0 : EvR w vp vt vm x) (hR : Ready w) (hq : fewE x = true) (hu : Evt.upE S H x = (Evt.zero, er)) (hne : (er == 0) = false):
    Calls Tryd.prog 7 #[evv x vp vt vm, iv S H] w fun ed w' => ed = .returned (.bool true) ∧ Below w.heap.size w w' := by
  have hgR := guardR
  have hgV := guardV
  have heR := eql_rt
  have hgP := guardP
  have heP := eql_pt
  have HQ := Lib.hid hq
  clear hq
  have HU := Lib.hid hu
  clear hu
  have HNE := Lib.hid hne
  clear hne
  obtain ⟨k, ps, ts, b, d, n, e0, ms, str⟩ := x
  have HX0 := Lib.hid h0
  obtain ⟨Pps, Cps, e1, _⟩ := sl_shape h0.ps
  obtain ⟨Pts, Cts, e2, _⟩ := sl_shape h0.ts
  obtain ⟨Pms, Cms, e3, _⟩ := sl_shape h0.ms
  dsimp only at e1 e2 e3
  subst e1 e2 e3
  clear h0
  have hB0 : Below w.heap.size w w := Below.refl _ _
  go_enter Tryd.func7, Tryd.ntmps7
  go_wp2_with fail
  have hR' := hR.below ((hB0.alloc hB0.size (.cells #[.int .i64 k, .slice Pps ps.length Cps, .slice Pts ts.length Cts, .int .i64 b, .int .i64 d, .int .i64 n, .int .i64 e0, .slice Pms ms.length Cms, .string str] 28)).alloc (hB0.alloc hB0.size (.cells #[.int .i64 k, .slice Pps ps.length Cps, .slice Pts ts.length Cts, .int .i64 b, .int .i64 d, .int .i64 n, .int .i64 e0, .slice Pms ms.length Cms, .string str] 28)).size (.cells #[.int .i64 S, .int .i64 H] 38))
  refine (awake_any _ hR').mono ?_
  rintro e w1 ⟨rfl, hb1⟩
  clear hR'
  have hs1 : Below w.heap.size w w1 := Below.trans (by repeat (first | exact Below.refl _ _ | refine Below.alloc ?_ (by simp <;> omega) _)) (hb1.mono (by simp <;> omega))
  have c_e_0 : w1.cell? ⟨w.heap.size, 0, none⟩ = some (.int .i64 k) := (hb1.cell (by simp <;> omega)).trans (by go_simp)
  have c_e_1 : w1.cell? ⟨w.heap.size, 1, none⟩ = some (.slice Pps ps.length Cps) := (hb1.cell (by simp <;> omega)).trans (by go_simp)
  have c_e_2 : w1.cell? ⟨w.heap.size, 2, none⟩ = some (.slice Pts ts.length Cts) := (hb1.cell (by simp <;> omega)).trans (by go_simp)
  have c_e_3 : w1.cell? ⟨w.heap.size, 3, none⟩ = some (.int .i64 b) := (hb1.cell (by simp <;> omega)).trans (by go_simp)
  have c_e_4 : w1.cell? ⟨w.heap.size, 4, none⟩ = some (.int .i64 d) := (hb1.cell (by simp <;> omega)).trans (by go_simp)
  have c_e_5 : w1.cell? ⟨w.heap.size, 5, none⟩ = some (.int .i64 n) := (hb1.cell (by simp <;> omega)).trans (by go_simp)
  have c_e_6 : w1.cell? ⟨w.heap.size, 6, none⟩ = some (.int .i64 e0) := (hb1.cell (by simp <;> omega)).trans (by go_simp)
  have c_e_7 : w1.cell? ⟨w.heap.size, 7, none⟩ = some (.slice Pms ms.length Cms) := (hb1.cell (by simp <;> omega)).trans (by go_simp)
  have c_e_8 : w1.cell? ⟨w.heap.size, 8, none⟩ = some (.string str) := (hb1.cell (by simp <;> omega)).trans (by go_simp)
  have c_g_0 : w1.cell? ⟨w.heap.size + 1, 0, none⟩ = some (.int .i64 S) := (hb1.cell (by simp <;> omega)).trans (by go_simp)
  have c_g_1 : w1.cell? ⟨w.heap.size + 1, 1, none⟩ = some (.int .i64 H) := (hb1.cell (by simp <;> omega)).trans (by go_simp)
  have z_e : w.heap.size < _ := World.block_lt_of_cell? _ _ c_e_0
  have z_g : w.heap.size + 1 < _ := World.block_lt_of_cell? _ _ c_g_0
  have hB1 := below_two hB0 hs1
  clear hB0 hs1 hb1
  go_wp2_with fail
  have hs2 : Below w1.heap.size w1 w1 := by repeat (first | exact Below.refl _ _ | refine Below.alloc ?_ (by simp <;> omega) _)
  replace c_e_0 := cell_later hs2 c_e_0
  replace c_e_1 := cell_later hs2 c_e_1
  replace c_e_2 := cell_later hs2 c_e_2
  replace c_e_3 := cell_later hs2 c_e_3
  replace c_e_4 := cell_later hs2 c_e_4
  replace c_e_5 := cell_later hs2 c_e_5
  replace c_e_6 := cell_later hs2 c_e_6
  replace c_e_7 := cell_later hs2 c_e_7
  replace c_e_8 := cell_later hs2 c_e_8
  replace c_g_0 := cell_later hs2 c_g_0
  replace c_g_1 := cell_later hs2 c_g_1
  have hB2 := below_two hB1 hs2
  clear hB1 hs2
  have y2_e := z_e
  have y2_g := z_g
  generalize w1 = w2 at *
  clear z_e
  have z_e : w.heap.size < _ := World.block_lt_of_cell? _ _ c_e_0
  clear z_g
  have z_g : w.heap.size + 1 < _ := World.block_lt_of_cell? _ _ c_g_0
  have HNE' := HNE.out
  go_wp2_with fail
  have hR' := hR.below hB2
  refine (few_is HQ.out _ _ _ _ (HX0.out.later hB2)).mono ?_
  rintro e w3 ⟨rfl, hb3⟩
  clear hR'
  have hs3 := hb3
  replace c_e_0 := cell_later hs3 c_e_0
  replace c_e_1 := cell_later hs3 c_e_1
  replace c_e_2 := cell_later hs3 c_e_2
  replace c_e_3 := cell_later hs3 c_e_3
  replace c_e_4 := cell_later hs3 c_e_4
  replace c_e_5 := cell_later hs3 c_e_5
  replace c_e_6 := cell_later hs3 c_e_6
  replace c_e_7 := cell_later hs3 c_e_7
  replace c_e_8 := cell_later hs3 c_e_8
  replace c_g_0 := cell_later hs3 c_g_0
  replace c_g_1 := cell_later hs3 c_g_1
  clear z_e
  have z_e : w.heap.size < _ := World.block_lt_of_cell? _ _ c_e_0
  clear z_g
  have z_g : w.heap.size + 1 < _ := World.block_lt_of_cell? _ _ c_g_0
  have hB3 := below_two hB2 hs3
  clear hB2 hs3
  go_wp2_with fail
  have hR' := hR.below hB3
  refine (eup_is HU.out _ _ _ _ (HX0.out.later hB3) hR').mono ?_
  rintro e w4 ⟨vp, vt, vm, rfl, hev, hb4⟩
  clear hR'
  have hs4 := hb4
  replace c_e_0 := cell_later hs4 c_e_0
  replace c_e_1 := cell_later hs4 c_e_1
  replace c_e_2 := cell_later hs4 c_e_2
  replace c_e_3 := cell_later hs4 c_e_3
  replace c_e_4 := cell_later hs4 c_e_4
  replace c_e_5 := cell_later hs4 c_e_5
  replace c_e_6 := cell_later hs4 c_e_6
  replace c_e_7 := cell_later hs4 c_e_7
  replace c_e_8 := cell_later hs4 c_e_8
  replace c_g_0 := cell_later hs4 c_g_0
  replace c_g_1 := cell_later hs4 c_g_1
  clear z_e
  have z_e : w.heap.size < _ := World.block_lt_of_cell? _ _ c_e_0
  clear z_g
  have z_g : w.heap.size + 1 < _ := World.block_lt_of_cell? _ _ c_g_0
  have hB4 := below_two hB3 hs4
  clear hB3 hs4
  dsimp only at hev
  obtain ⟨pa, ca, e3, _⟩ := sl_shape hev.ps
  have e3 : vp = .slice pa 0 ca := e3
  obtain ⟨qa, da, e4, _⟩ := sl_shape hev.ts
  have e4 : vt = .slice qa 0 da := e4
  obtain ⟨ra, fa, e5, _⟩ := sl_shape hev.ms
  have e5 : vm = .slice ra 0 fa := e5
  subst e3 e4 e5
  have HVa := Lib.hid hev
  have SVa : Hid (Since w4 w4) := Lib.hid (Since.refl _)
  clear hev
  go_wp2_with fail
  have hR' := hR.below (hB4.alloc hB4.size (.cells #[.int .i64 Evt.zero.k, .slice pa 0 ca, .slice qa 0 da, .int .i64 Evt.zero.b, .int .i64 Evt.zero.d, .int .i64 Evt.zero.n, .int .i64 Evt.zero.e, .slice ra 0 fa, .string Evt.zero.s] 28))
  refine (esame_is (x := Evt.zero) (y := Evt.zero) (sameE_self _) _ _ _ _ _ _ _ (HVa.out.later (below_two SVa.out (by repeat (first | exact Below.refl _ _ | refine Below.alloc ?_ (by simp <;> omega) _)))) (EvR.zero _)).mono ?_
  rintro e w5 ⟨rfl, hb5⟩
  clear hR'
  have y5_e := z_e
  have y5_g := z_g
  have hs5 : Below w4.heap.size w4 w5 := Below.trans (by repeat (first | exact Below.refl _ _ | refine Below.alloc ?_ (by simp <;> omega) _)) (hb5.mono (by simp <;> omega))
  replace SVa := Lib.hid (SVa.out.later hs5)
  replace c_e_0 := cell_later hs5 c_e_0
  replace c_e_1 := cell_later hs5 c_e_1
  replace c_e_2 := cell_later hs5 c_e_2
  replace c_e_3 := cell_later hs5 c_e_3
  replace c_e_4 := cell_later hs5 c_e_4
  replace c_e_5 := cell_later hs5 c_e_5
  replace c_e_6 := cell_later hs5 c_e_6
  replace c_e_7 := cell_later hs5 c_e_7
  replace c_e_8 := cell_later hs5 c_e_8
  replace c_g_0 := cell_later hs5 c_g_0
  replace c_g_1 := cell_later hs5 c_g_1
  have c_a_0 : w5.cell? ⟨w4.heap.size, 0, none⟩ = some (.int .i64 Evt.zero.k) := (hb5.cell (by simp <;> omega)).trans (by go_simp)
  have c_a_1 : w5.cell? ⟨w4.heap.size, 1, none⟩ = some (.slice pa 0 ca) := (hb5.cell (by simp <;> omega)).trans (by go_simp)
  have c_a_2 : w5.cell? ⟨w4.heap.size, 2, none⟩ = some (.slice qa 0 da) := (hb5.cell (by simp <;> omega)).trans (by go_simp)
  have c_a_3 : w5.cell? ⟨w4.heap.size, 3, none⟩ = some (.int .i64 Evt.zero.b) := (hb5.cell (by simp <;> omega)).trans (by go_simp)
  have c_a_4 : w5.cell? ⟨w4.heap.size, 4, none⟩ = some (.int .i64 Evt.zero.d) := (hb5.cell (by simp <;> omega)).trans (by go_simp)
  have c_a_5 : w5.cell? ⟨w4.heap.size, 5, none⟩ = some (.int .i64 Evt.zero.n) := (hb5.cell (by simp <;> omega)).trans (by go_simp)
  have c_a_6 : w5.cell? ⟨w4.heap.size, 6, none⟩ = some (.int .i64 Evt.zero.e) := (hb5.cell (by simp <;> omega)).trans (by go_simp)
  have c_a_7 : w5.cell? ⟨w4.heap.size, 7, none⟩ = some (.slice ra 0 fa) := (hb5.cell (by simp <;> omega)).trans (by go_simp)
  have c_a_8 : w5.cell? ⟨w4.heap.size, 8, none⟩ = some (.string Evt.zero.s) := (hb5.cell (by simp <;> omega)).trans (by go_simp)
  have z_a : w4.heap.size < _ := World.block_lt_of_cell? _ _ c_a_0
  clear z_e
  have z_e : w.heap.size < _ := World.block_lt_of_cell? _ _ c_e_0
  clear z_g
  have z_g : w.heap.size + 1 < _ := World.block_lt_of_cell? _ _ c_g_0
  have hB5 := below_two hB4 hs5
  clear hB4 hs5 hb5
  go_wp2
  go_ret
  exact ⟨rfl, hB5⟩

set_option maxRecDepth 100000 in
set_option maxHeartbeats 40000000 in
theorem upBack_ok (x : Ev) (vp vt vm : Value) (S H : Int) (Z : Ev) (w : World) (h0 : EvR w vp vt vm x) (hR : Ready w) (hq : fewE x = true) (hu : Evt.upE S H x = (Z, 0)) (hv : Evt.upE (wrap64 (-S)) (wrap64 (-H)) Z = (x, 0)) (hz : { Z with ps := x.ps } = x):
    Calls Tryd.prog 7 #[evv x vp vt vm, iv S H] w fun ed w' => ed = .returned (.bool true) ∧ Below w.heap.size w w' := by
  have hgR := guardR
  have hgV := guardV
  have heR := eql_rt
  have hgP := guardP
  have heP := eql_pt
  have HQ := Lib.hid hq
  clear hq
  have HU := Lib.hid hu
  clear hu
  have HV := Lib.hid hv
  clear hv
  have HZ := Lib.hid hz
  clear hz
  obtain ⟨k, ps, ts, b, d, n, e0, ms, str⟩ := x
  have HX0 := Lib.hid h0
  obtain ⟨Pps, Cps, e1, _⟩ := sl_shape h0.ps
  obtain ⟨Pts, Cts, e2, _⟩ := sl_shape h0.ts
  obtain ⟨Pms, Cms, e3, _⟩ := sl_shape h0.ms
  dsimp only at e1 e2 e3
  subst e1 e2 e3
  clear h0
  have hB0 : Below w.heap.size w w := Below.refl _ _
  go_enter Tryd.func7, Tryd.ntmps7
  go_wp2_with fail
  have hR' := hR.below ((hB0.alloc hB0.size (.cells #[.int .i64 k, .slice Pps ps.length Cps, .slice Pts ts.length Cts, .int .i64 b, .int .i64 d, .int .i64 n, .int .i64 e0, .slice Pms ms.length Cms, .string str] 28)).alloc (hB0.alloc hB0.size (.cells #[.int .i64 k, .slice Pps ps.length Cps, .slice Pts ts.length Cts, .int .i64 b, .int .i64 d, .int .i64 n, .int .i64 e0, .slice Pms ms.length Cms, .string str] 28)).size (.cells #[.int .i64 S, .int .i64 H] 38))
  refine (awake_any _ hR').mono ?_
  rintro e w1 ⟨rfl, hb1⟩
  clear hR'
  have hs1 : Below w.heap.size w w1 := Below.trans (by repeat (first | exact Below.refl _ _ | refine Below.alloc ?_ (by simp <;> omega) _)) (hb1.mono (by simp <;> omega))
  have c_e_0 : w1.cell? ⟨w.heap.size, 0, none⟩ = some (.int .i64 k) := (hb1.cell (by simp <;> omega)).trans (by go_simp)
  have c_e_1 : w1.cell? ⟨w.heap.size, 1, none⟩ = some (.slice Pps ps.length Cps) := (hb1.cell (by simp <;> omega)).trans (by go_simp)
  have c_e_2 : w1.cell? ⟨w.heap.size, 2, none⟩ = some (.slice Pts ts.length Cts) := (hb1.cell (by simp <;> omega)).trans (by go_simp)
  have c_e_3 : w1.cell? ⟨w.heap.size, 3, none⟩ = some (.int .i64 b) := (hb1.cell (by simp <;> omega)).trans (by go_simp)
  have c_e_4 : w1.cell? ⟨w.heap.size, 4, none⟩ = some (.int .i64 d) := (hb1.cell (by simp <;> omega)).trans (by go_simp)
  have c_e_5 : w1.cell? ⟨w.heap.size, 5, none⟩ = some (.int .i64 n) := (hb1.cell (by simp <;> omega)).trans (by go_simp)
  have c_e_6 : w1.cell? ⟨w.heap.size, 6, none⟩ = some (.int .i64 e0) := (hb1.cell (by simp <;> omega)).trans (by go_simp)
  have c_e_7 : w1.cell? ⟨w.heap.size, 7, none⟩ = some (.slice Pms ms.length Cms) := (hb1.cell (by simp <;> omega)).trans (by go_simp)
  have c_e_8 : w1.cell? ⟨w.heap.size, 8, none⟩ = some (.string str) := (hb1.cell (by simp <;> omega)).trans (by go_simp)
  have c_g_0 : w1.cell? ⟨w.heap.size + 1, 0, none⟩ = some (.int .i64 S) := (hb1.cell (by simp <;> omega)).trans (by go_simp)
  have c_g_1 : w1.cell? ⟨w.heap.size + 1, 1, none⟩ = some (.int .i64 H) := (hb1.cell (by simp <;> omega)).trans (by go_simp)
  have z_e : w.heap.size < _ := World.block_lt_of_cell? _ _ c_e_0
  have z_g : w.heap.size + 1 < _ := World.block_lt_of_cell? _ _ c_g_0
  have hB1 := below_two hB0 hs1
  clear hB0 hs1 hb1
  go_wp2_with fail
  have hs2 : Below w1.heap.size w1 w1 := by repeat (first | exact Below.refl _ _ | refine Below.alloc ?_ (by simp <;> omega) _)
  replace c_e_0 := cell_later hs2 c_e_0
  replace c_e_1 := cell_later hs2 c_e_1
  replace c_e_2 := cell_later hs2 c_e_2
  replace c_e_3 := cell_later hs2 c_e_3
  replace c_e_4 := cell_later hs2 c_e_4
  replace c_e_5 := cell_later hs2 c_e_5
  replace c_e_6 := cell_later hs2 c_e_6
  replace c_e_7 := cell_later hs2 c_e_7
  replace c_e_8 := cell_later hs2 c_e_8
  replace c_g_0 := cell_later hs2 c_g_0
  replace c_g_1 := cell_later hs2 c_g_1
  have hB2 := below_two hB1 hs2
  clear hB1 hs2
  have y2_e := z_e
  have y2_g := z_g
  generalize w1 = w2 at *
  clear z_e
  have z_e : w.heap.size < _ := World.block_lt_of_cell? _ _ c_e_0
  clear z_g
  have z_g : w.heap.size + 1 < _ := World.block_lt_of_cell? _ _ c_g_0
  go_wp2_with fail
  have hR' := hR.below hB2
  refine (few_is HQ.out _ _ _ _ (HX0.out.later hB2)).mono ?_
  rintro e w3 ⟨rfl, hb3⟩
  clear hR'
  have hs3 := hb3
  replace c_e_0 := cell_later hs3 c_e_0
  replace c_e_1 := cell_later hs3 c_e_1
  replace c_e_2 := cell_later hs3 c_e_2
  replace c_e_3 := cell_later hs3 c_e_3
  replace c_e_4 := cell_later hs3 c_e_4
  replace c_e_5 := cell_later hs3 c_e_5
  replace c_e_6 := cell_later hs3 c_e_6
  replace c_e_7 := cell_later hs3 c_e_7
  replace c_e_8 := cell_later hs3 c_e_8
  replace c_g_0 := cell_later hs3 c_g_0
  replace c_g_1 := cell_later hs3 c_g_1
  clear z_e
  have z_e : w.heap.size < _ := World.block_lt_of_cell? _ _ c_e_0
  clear z_g
  have z_g : w.heap.size + 1 < _ := World.block_lt_of_cell? _ _ c_g_0
  have hB3 := below_two hB2 hs3
  clear hB2 hs3
  go_wp2_with fail
  have hR' := hR.below hB3
  refine (eup_is HU.out _ _ _ _ (HX0.out.later hB3) hR').mono ?_
  rintro e w4 ⟨vp, vt, vm, rfl, hev, hb4⟩
  clear hR'
  have hs4 := hb4
  replace c_e_0 := cell_later hs4 c_e_0
  replace c_e_1 := cell_later hs4 c_e_1
  replace c_e_2 := cell_later hs4 c_e_2
  replace c_e_3 := cell_later hs4 c_e_3
  replace c_e_4 := cell_later hs4 c_e_4
  replace c_e_5 := cell_later hs4 c_e_5
  replace c_e_6 := cell_later hs4 c_e_6
  replace c_e_7 := cell_later hs4 c_e_7
  replace c_e_8 := cell_later hs4 c_e_8
  replace c_g_0 := cell_later hs4 c_g_0
  replace c_g_1 := cell_later hs4 c_g_1
  clear z_e
  have z_e : w.heap.size < _ := World.block_lt_of_cell? _ _ c_e_0
  clear z_g
  have z_g : w.heap.size + 1 < _ := World.block_lt_of_cell? _ _ c_g_0
  have hB4 := below_two hB3 hs4
  clear hB3 hs4
  dsimp only at hev
  obtain ⟨pa, ca, e3, _⟩ := sl_shape hev.ps
  obtain ⟨qa, da, e4, _⟩ := sl_shape hev.ts
  obtain ⟨ra, fa, e5, _⟩ := sl_shape hev.ms
  subst e3 e4 e5
  have HVa := Lib.hid hev
  have SVa : Hid (Since w4 w4) := Lib.hid (Since.refl _)
  clear hev
  go_wp2_with fail
  have hs5 : Below w4.heap.size w4 (w4.alloc (.cells #[.int .i64 Z.k, .slice pa Z.ps.length ca, .slice qa Z.ts.length da, .int .i64 Z.b, .int .i64 Z.d, .int .i64 Z.n, .int .i64 Z.e, .slice ra Z.ms.length fa, .string Z.s] 28)) := by repeat (first | exact Below.refl _ _ | refine Below.alloc ?_ (by simp <;> omega) _)
  replace SVa := Lib.hid (SVa.out.later hs5)
  replace c_e_0 := cell_later hs5 c_e_0
  replace c_e_1 := cell_later hs5 c_e_1
  replace c_e_2 := cell_later hs5 c_e_2
  replace c_e_3 := cell_later hs5 c_e_3
  replace c_e_4 := cell_later hs5 c_e_4
  replace c_e_5 := cell_later hs5 c_e_5
  replace c_e_6 := cell_later hs5 c_e_6
  replace c_e_7 := cell_later hs5 c_e_7
  replace c_e_8 := cell_later hs5 c_e_8
  replace c_g_0 := cell_later hs5 c_g_0
  replace c_g_1 := cell_later hs5 c_g_1
  have c_a_0 : (w4.alloc (.cells #[.int .i64 Z.k, .slice pa Z.ps.length ca, .slice qa Z.ts.length da, .int .i64 Z.b, .int .i64 Z.d, .int .i64 Z.n, .int .i64 Z.e, .slice ra Z.ms.length fa, .string Z.s] 28)).cell? ⟨w4.heap.size, 0, none⟩ = some (.int .i64 Z.k) := by go_simp
  have f_a_0 : (w4.alloc (.cells #[.int .i64 Z.k, .slice pa Z.ps.length ca, .slice qa Z.ts.length da, .int .i64 Z.b, .int .i64 Z.d, .int .i64 Z.n, .int .i64 Z.e, .slice ra Z.ms.length fa, .string Z.s] 28)).frozen? ⟨w4.heap.size, 0, none⟩ = false := by go_simp
  have c_a_1 : (w4.alloc (.cells #[.int .i64 Z.k, .slice pa Z.ps.length ca, .slice qa Z.ts.length da, .int .i64 Z.b, .int .i64 Z.d, .int .i64 Z.n, .int .i64 Z.e, .slice ra Z.ms.length fa, .string Z.s] 28)).cell? ⟨w4.heap.size, 1, none⟩ = some (.slice pa Z.ps.length ca) := by go_simp
  have f_a_1 : (w4.alloc (.cells #[.int .i64 Z.k, .slice pa Z.ps.length ca, .slice qa Z.ts.length da, .int .i64 Z.b, .int .i64 Z.d, .int .i64 Z.n, .int .i64 Z.e, .slice ra Z.ms.length fa, .string Z.s] 28)).frozen? ⟨w4.heap.size, 1, none⟩ = false := by go_simp
  have c_a_2 : (w4.alloc (.cells #[.int .i64 Z.k, .slice pa Z.ps.length ca, .slice qa Z.ts.length da, .int .i64 Z.b, .int .i64 Z.d, .int .i64 Z.n, .int .i64 Z.e, .slice ra Z.ms.length fa, .string Z.s] 28)).cell? ⟨w4.heap.size, 2, none⟩ = some (.slice qa Z.ts.length da) := by go_simp
  have f_a_2 : (w4.alloc (.cells #[.int .i64 Z.k, .slice pa Z.ps.length ca, .slice qa Z.ts.length da, .int .i64 Z.b, .int .i64 Z.d, .int .i64 Z.n, .int .i64 Z.e, .slice ra Z.ms.length fa, .string Z.s] 28)).frozen? ⟨w4.heap.size, 2, none⟩ = false := by go_simp
  have c_a_3 : (w4.alloc (.cells #[.int .i64 Z.k, .slice pa Z.ps.length ca, .slice qa Z.ts.length da, .int .i64 Z.b, .int .i64 Z.d, .int .i64 Z.n, .int .i64 Z.e, .slice ra Z.ms.length fa, .string Z.s] 28)).cell? ⟨w4.heap.size, 3, none⟩ = some (.int .i64 Z.b) := by go_simp
  have f_a_3 : (w4.alloc (.cells #[.int .i64 Z.k, .slice pa Z.ps.length ca, .slice qa Z.ts.length da, .int .i64 Z.b, .int .i64 Z.d, .int .i64 Z.n, .int .i64 Z.e, .slice ra Z.ms.length fa, .string Z.s] 28)).frozen? ⟨w4.heap.size, 3, none⟩ = false := by go_simp
  have c_a_4 : (w4.alloc (.cells #[.int .i64 Z.k, .slice pa Z.ps.length ca, .slice qa Z.ts.length da, .int .i64 Z.b, .int .i64 Z.d, .int .i64 Z.n, .int .i64 Z.e, .slice ra Z.ms.length fa, .string Z.s] 28)).cell? ⟨w4.heap.size, 4, none⟩ = some (.int .i64 Z.d) := by go_simp
  have f_a_4 : (w4.alloc (.cells #[.int .i64 Z.k, .slice pa Z.ps.length ca, .slice qa Z.ts.length da, .int .i64 Z.b, .int .i64 Z.d, .int .i64 Z.n, .int .i64 Z.e, .slice ra Z.ms.length fa, .string Z.s] 28)).frozen? ⟨w4.heap.size, 4, none⟩ = false := by go_simp
  have c_a_5 : (w4.alloc (.cells #[.int .i64 Z.k, .slice pa Z.ps.length ca, .slice qa Z.ts.length da, .int .i64 Z.b, .int .i64 Z.d, .int .i64 Z.n, .int .i64 Z.e, .slice ra Z.ms.length fa, .string Z.s] 28)).cell? ⟨w4.heap.size, 5, none⟩ = some (.int .i64 Z.n) := by go_simp
  have f_a_5 : (w4.alloc (.cells #[.int .i64 Z.k, .slice pa Z.ps.length ca, .slice qa Z.ts.length da, .int .i64 Z.b, .int .i64 Z.d, .int .i64 Z.n, .int .i64 Z.e, .slice ra Z.ms.length fa, .string Z.s] 28)).frozen? ⟨w4.heap.size, 5, none⟩ = false := by go_simp
  have c_a_6 : (w4.alloc (.cells #[.int .i64 Z.k, .slice pa Z.ps.length ca, .slice qa Z.ts.length da, .int .i64 Z.b, .int .i64 Z.d, .int .i64 Z.n, .int .i64 Z.e, .slice ra Z.ms.length fa, .string Z.s] 28)).cell? ⟨w4.heap.size, 6, none⟩ = some (.int .i64 Z.e) := by go_simp
  have f_a_6 : (w4.alloc (.cells #[.int .i64 Z.k, .slice pa Z.ps.length ca, .slice qa Z.ts.length da, .int .i64 Z.b, .int .i64 Z.d, .int .i64 Z.n, .int .i64 Z.e, .slice ra Z.ms.length fa, .string Z.s] 28)).frozen? ⟨w4.heap.size, 6, none⟩ = false := by go_simp
  have c_a_7 : (w4.alloc (.cells #[.int .i64 Z.k, .slice pa Z.ps.length ca, .slice qa Z.ts.length da, .int .i64 Z.b, .int .i64 Z.d, .int .i64 Z.n, .int .i64 Z.e, .slice ra Z.ms.length fa, .string Z.s] 28)).cell? ⟨w4.heap.size, 7, none⟩ = some (.slice ra Z.ms.length fa) := by go_simp
  have f_a_7 : (w4.alloc (.cells #[.int .i64 Z.k, .slice pa Z.ps.length ca, .slice qa Z.ts.length da, .int .i64 Z.b, .int .i64 Z.d, .int .i64 Z.n, .int .i64 Z.e, .slice ra Z.ms.length fa, .string Z.s] 28)).frozen? ⟨w4.heap.size, 7, none⟩ = false := by go_simp
  have c_a_8 : (w4.alloc (.cells #[.int .i64 Z.k, .slice pa Z.ps.length ca, .slice qa Z.ts.length da, .int .i64 Z.b, .int .i64 Z.d, .int .i64 Z.n, .int .i64 Z.e, .slice ra Z.ms.length fa, .string Z.s] 28)).cell? ⟨w4.heap.size, 8, none⟩ = some (.string Z.s) := by go_simp
  have f_a_8 : (w4.alloc (.cells #[.int .i64 Z.k, .slice pa Z.ps.length ca, .slice qa Z.ts.length da, .int .i64 Z.b, .int .i64 Z.d, .int .i64 Z.n, .int .i64 Z.e, .slice ra Z.ms.length fa, .string Z.s] 28)).frozen? ⟨w4.heap.size, 8, none⟩ = false := by go_simp
  have hB5 := below_two hB4 hs5
  clear hB4 hs5
  have y5_e := z_e
  have y5_g := z_g
  generalize (w4.alloc (.cells #[.int .i64 Z.k, .slice pa Z.ps.length ca, .slice qa Z.ts.length da, .int .i64 Z.b, .int .i64 Z.d, .int .i64 Z.n, .int .i64 Z.e, .slice ra Z.ms.length fa, .string Z.s] 28)) = w5 at *
  have z_a : w4.heap.size < _ := World.block_lt_of_cell? _ _ c_a_0
  clear z_e
  have z_e : w.heap.size < _ := World.block_lt_of_cell? _ _ c_e_0
  clear z_g
  have z_g : w.heap.size + 1 < _ := World.block_lt_of_cell? _ _ c_g_0
  have z_ab : w4.heap.size < w5.heap.size := z_a
  go_wp2_with fail
  have hR' := hR.below hB5
  refine (eup_isO HV.out _ _ _ _ (HVa.out.later (below_two SVa.out (Below.refl _ _))) hR').mono ?_
  rintro e w6 ⟨vp, vt, vm, rfl, hev, hown, hb6⟩
  clear hR'
  have hs6 := hb6
  replace SVa := Lib.hid (SVa.out.later hs6)
  replace c_e_0 := cell_later hs6 c_e_0
  replace c_e_1 := cell_later hs6 c_e_1
  replace c_e_2 := cell_later hs6 c_e_2
  replace c_e_3 := cell_later hs6 c_e_3
  replace c_e_4 := cell_later hs6 c_e_4
  replace c_e_5 := cell_later hs6 c_e_5
  replace c_e_6 := cell_later hs6 c_e_6
  replace c_e_7 := cell_later hs6 c_e_7
  replace c_e_8 := cell_later hs6 c_e_8
  replace c_g_0 := cell_later hs6 c_g_0
  replace c_g_1 := cell_later hs6 c_g_1
  replace f_a_0 := frozen_later hs6 c_a_0 f_a_0
  replace c_a_0 := cell_later hs6 c_a_0
  replace f_a_1 := frozen_later hs6 c_a_1 f_a_1
  replace c_a_1 := cell_later hs6 c_a_1
  replace f_a_2 := frozen_later hs6 c_a_2 f_a_2
  replace c_a_2 := cell_later hs6 c_a_2
  replace f_a_3 := frozen_later hs6 c_a_3 f_a_3
  replace c_a_3 := cell_later hs6 c_a_3
  replace f_a_4 := frozen_later hs6 c_a_4 f_a_4
  replace c_a_4 := cell_later hs6 c_a_4
  replace f_a_5 := frozen_later hs6 c_a_5 f_a_5
  replace c_a_5 := cell_later hs6 c_a_5
  replace f_a_6 := frozen_later hs6 c_a_6 f_a_6
  replace c_a_6 := cell_later hs6 c_a_6
  replace f_a_7 := frozen_later hs6 c_a_7 f_a_7
  replace c_a_7 := cell_later hs6 c_a_7
  replace f_a_8 := frozen_later hs6 c_a_8 f_a_8
  replace c_a_8 := cell_later hs6 c_a_8
  clear z_a
  have z_a : w4.heap.size < _ := World.block_lt_of_cell? _ _ c_a_0
  clear z_e
  have z_e : w.heap.size < _ := World.block_lt_of_cell? _ _ c_e_0
  clear z_g
  have z_g : w.heap.size + 1 < _ := World.block_lt_of_cell? _ _ c_g_0
  have hB6 := below_two hB5 hs6
  clear hB5 hs6
  dsimp only at hev
  obtain ⟨pb, cb, e3, _⟩ := sl_shape hev.ps
  obtain ⟨qb, db, e4, _⟩ := sl_shape hev.ts
  obtain ⟨rb, fb, e5, _⟩ := sl_shape hev.ms
  subst e3 e4 e5
  have HVb := Lib.hid hev
  have HOb := Lib.hid hown
  clear hown
  have SVb : Hid (Since w6 w6) := Lib.hid (Since.refl _)
  clear hev
  go_upto_region 8 with fail
  have hs7 : Below w6.heap.size w6 (w6.alloc (.cells #[.int .i64 k, .slice pb ps.length cb, .slice qb ts.length db, .int .i64 b, .int .i64 d, .int .i64 n, .int .i64 e0, .slice rb ms.length fb, .string str] 28)) := by repeat (first | exact Below.refl _ _ | refine Below.alloc ?_ (by simp <;> omega) _)
  replace SVa := Lib.hid (SVa.out.later hs7)
  replace SVb := Lib.hid (SVb.out.later hs7)
  replace c_e_0 := cell_later hs7 c_e_0
  replace c_e_1 := cell_later hs7 c_e_1
  replace c_e_2 := cell_later hs7 c_e_2
  replace c_e_3 := cell_later hs7 c_e_3
  replace c_e_4 := cell_later hs7 c_e_4
  replace c_e_5 := cell_later hs7 c_e_5
  replace c_e_6 := cell_later hs7 c_e_6
  replace c_e_7 := cell_later hs7 c_e_7
  replace c_e_8 := cell_later hs7 c_e_8
  replace c_g_0 := cell_later hs7 c_g_0
  replace c_g_1 := cell_later hs7 c_g_1
  replace f_a_0 := frozen_later hs7 c_a_0 f_a_0
  replace c_a_0 := cell_later hs7 c_a_0
  replace f_a_1 := frozen_later hs7 c_a_1 f_a_1
  replace c_a_1 := cell_later hs7 c_a_1
  replace f_a_2 := frozen_later hs7 c_a_2 f_a_2
  replace c_a_2 := cell_later hs7 c_a_2
  replace f_a_3 := frozen_later hs7 c_a_3 f_a_3
  replace c_a_3 := cell_later hs7 c_a_3
  replace f_a_4 := frozen_later hs7 c_a_4 f_a_4
  replace c_a_4 := cell_later hs7 c_a_4
  replace f_a_5 := frozen_later hs7 c_a_5 f_a_5
  replace c_a_5 := cell_later hs7 c_a_5
  replace f_a_6 := frozen_later hs7 c_a_6 f_a_6
  replace c_a_6 := cell_later hs7 c_a_6
  replace f_a_7 := frozen_later hs7 c_a_7 f_a_7
  replace c_a_7 := cell_later hs7 c_a_7
  replace f_a_8 := frozen_later hs7 c_a_8 f_a_8
  replace c_a_8 := cell_later hs7 c_a_8
  have c_b_0 : (w6.alloc (.cells #[.int .i64 k, .slice pb ps.length cb, .slice qb ts.length db, .int .i64 b, .int .i64 d, .int .i64 n, .int .i64 e0, .slice rb ms.length fb, .string str] 28)).cell? ⟨w6.heap.size, 0, none⟩ = some (.int .i64 k) := by go_simp
  have c_b_1 : (w6.alloc (.cells #[.int .i64 k, .slice pb ps.length cb, .slice qb ts.length db, .int .i64 b, .int .i64 d, .int .i64 n, .int .i64 e0, .slice rb ms.length fb, .string str] 28)).cell? ⟨w6.heap.size, 1, none⟩ = some (.slice pb ps.length cb) := by go_simp
  have c_b_2 : (w6.alloc (.cells #[.int .i64 k, .slice pb ps.length cb, .slice qb ts.length db, .int .i64 b, .int .i64 d, .int .i64 n, .int .i64 e0, .slice rb ms.length fb, .string str] 28)).cell? ⟨w6.heap.size, 2, none⟩ = some (.slice qb ts.length db) := by go_simp
  have c_b_3 : (w6.alloc (.cells #[.int .i64 k, .slice pb ps.length cb, .slice qb ts.length db, .int .i64 b, .int .i64 d, .int .i64 n, .int .i64 e0, .slice rb ms.length fb, .string str] 28)).cell? ⟨w6.heap.size, 3, none⟩ = some (.int .i64 b) := by go_simp
  have c_b_4 : (w6.alloc (.cells #[.int .i64 k, .slice pb ps.length cb, .slice qb ts.length db, .int .i64 b, .int .i64 d, .int .i64 n, .int .i64 e0, .slice rb ms.length fb, .string str] 28)).cell? ⟨w6.heap.size, 4, none⟩ = some (.int .i64 d) := by go_simp
  have c_b_5 : (w6.alloc (.cells #[.int .i64 k, .slice pb ps.length cb, .slice qb ts.length db, .int .i64 b, .int .i64 d, .int .i64 n, .int .i64 e0, .slice rb ms.length fb, .string str] 28)).cell? ⟨w6.heap.size, 5, none⟩ = some (.int .i64 n) := by go_simp
  have c_b_6 : (w6.alloc (.cells #[.int .i64 k, .slice pb ps.length cb, .slice qb ts.length db, .int .i64 b, .int .i64 d, .int .i64 n, .int .i64 e0, .slice rb ms.length fb, .string str] 28)).cell? ⟨w6.heap.size, 6, none⟩ = some (.int .i64 e0) := by go_simp
  have c_b_7 : (w6.alloc (.cells #[.int .i64 k, .slice pb ps.length cb, .slice qb ts.length db, .int .i64 b, .int .i64 d, .int .i64 n, .int .i64 e0, .slice rb ms.length fb, .string str] 28)).cell? ⟨w6.heap.size, 7, none⟩ = some (.slice rb ms.length fb) := by go_simp
  have c_b_8 : (w6.alloc (.cells #[.int .i64 k, .slice pb ps.length cb, .slice qb ts.length db, .int .i64 b, .int .i64 d, .int .i64 n, .int .i64 e0, .slice rb ms.length fb, .string str] 28)).cell? ⟨w6.heap.size, 8, none⟩ = some (.string str) := by go_simp
  have hB7 := below_two hB6 hs7
  clear hB6 hs7
  have y7_a := z_a
  have y7_e := z_e
  have y7_g := z_g
  generalize (w6.alloc (.cells #[.int .i64 k, .slice pb ps.length cb, .slice qb ts.length db, .int .i64 b, .int .i64 d, .int .i64 n, .int .i64 e0, .slice rb ms.length fb, .string str] 28)) = w7 at *
  clear z_a
  have z_a : w4.heap.size < _ := World.block_lt_of_cell? _ _ c_a_0
  have z_b : w6.heap.size < _ := World.block_lt_of_cell? _ _ c_b_0
  clear z_e
  have z_e : w.heap.size < _ := World.block_lt_of_cell? _ _ c_e_0
  clear z_g
  have z_g : w.heap.size + 1 < _ := World.block_lt_of_cell? _ _ c_g_0
  have HVc := Lib.hid (HVb.out.later SVb.out)
  clear SVb
  go_wp2_with fail
  have n_c_e_0 : (w7.setCell ⟨w4.heap.size, 1, none⟩ (.slice Pps ps.length Cps)).cell? ⟨w.heap.size, 0, none⟩ = some (.int .i64 k) := set_far (by omega) (c_e_0)
  have n_c_e_1 : (w7.setCell ⟨w4.heap.size, 1, none⟩ (.slice Pps ps.length Cps)).cell? ⟨w.heap.size, 1, none⟩ = some (.slice Pps ps.length Cps) := set_far (by omega) (c_e_1)
  have n_c_e_2 : (w7.setCell ⟨w4.heap.size, 1, none⟩ (.slice Pps ps.length Cps)).cell? ⟨w.heap.size, 2, none⟩ = some (.slice Pts ts.length Cts) := set_far (by omega) (c_e_2)
  have n_c_e_3 : (w7.setCell ⟨w4.heap.size, 1, none⟩ (.slice Pps ps.length Cps)).cell? ⟨w.heap.size, 3, none⟩ = some (.int .i64 b) := set_far (by omega) (c_e_3)
  have n_c_e_4 : (w7.setCell ⟨w4.heap.size, 1, none⟩ (.slice Pps ps.length Cps)).cell? ⟨w.heap.size, 4, none⟩ = some (.int .i64 d) := set_far (by omega) (c_e_4)
  have n_c_e_5 : (w7.setCell ⟨w4.heap.size, 1, none⟩ (.slice Pps ps.length Cps)).cell? ⟨w.heap.size, 5, none⟩ = some (.int .i64 n) := set_far (by omega) (c_e_5)
  have n_c_e_6 : (w7.setCell ⟨w4.heap.size, 1, none⟩ (.slice Pps ps.length Cps)).cell? ⟨w.heap.size, 6, none⟩ = some (.int .i64 e0) := set_far (by omega) (c_e_6)
  have n_c_e_7 : (w7.setCell ⟨w4.heap.size, 1, none⟩ (.slice Pps ps.length Cps)).cell? ⟨w.heap.size, 7, none⟩ = some (.slice Pms ms.length Cms) := set_far (by omega) (c_e_7)
  have n_c_e_8 : (w7.setCell ⟨w4.heap.size, 1, none⟩ (.slice Pps ps.length Cps)).cell? ⟨w.heap.size, 8, none⟩ = some (.string str) := set_far (by omega) (c_e_8)
  have n_c_g_0 : (w7.setCell ⟨w4.heap.size, 1, none⟩ (.slice Pps ps.length Cps)).cell? ⟨w.heap.size + 1, 0, none⟩ = some (.int .i64 S) := set_far (by omega) (c_g_0)
  have n_c_g_1 : (w7.setCell ⟨w4.heap.size, 1, none⟩ (.slice Pps ps.length Cps)).cell? ⟨w.heap.size + 1, 1, none⟩ = some (.int .i64 H) := set_far (by omega) (c_g_1)
  have n_c_a_0 : (w7.setCell ⟨w4.heap.size, 1, none⟩ (.slice Pps ps.length Cps)).cell? ⟨w4.heap.size, 0, none⟩ = some (.int .i64 Z.k) := set_beside (by decide) (c_a_0)
  have n_f_a_0 : (w7.setCell ⟨w4.heap.size, 1, none⟩ (.slice Pps ps.length Cps)).frozen? ⟨w4.heap.size, 0, none⟩ = false := set_frozen (f_a_0)
  have n_c_a_1 : (w7.setCell ⟨w4.heap.size, 1, none⟩ (.slice Pps ps.length Cps)).cell? ⟨w4.heap.size, 1, none⟩ = some (.slice Pps ps.length Cps) := set_same (held_of (c_a_1))
  have n_f_a_1 : (w7.setCell ⟨w4.heap.size, 1, none⟩ (.slice Pps ps.length Cps)).frozen? ⟨w4.heap.size, 1, none⟩ = false := set_frozen (f_a_1)
  have n_c_a_2 : (w7.setCell ⟨w4.heap.size, 1, none⟩ (.slice Pps ps.length Cps)).cell? ⟨w4.heap.size, 2, none⟩ = some (.slice qa Z.ts.length da) := set_beside (by decide) (c_a_2)
  have n_f_a_2 : (w7.setCell ⟨w4.heap.size, 1, none⟩ (.slice Pps ps.length Cps)).frozen? ⟨w4.heap.size, 2, none⟩ = false := set_frozen (f_a_2)
  have n_c_a_3 : (w7.setCell ⟨w4.heap.size, 1, none⟩ (.slice Pps ps.length Cps)).cell? ⟨w4.heap.size, 3, none⟩ = some (.int .i64 Z.b) := set_beside (by decide) (c_a_3)
  have n_f_a_3 : (w7.setCell ⟨w4.heap.size, 1, none⟩ (.slice Pps ps.length Cps)).frozen? ⟨w4.heap.size, 3, none⟩ = false := set_frozen (f_a_3)
  have n_c_a_4 : (w7.setCell ⟨w4.heap.size, 1, none⟩ (.slice Pps ps.length Cps)).cell? ⟨w4.heap.size, 4, none⟩ = some (.int .i64 Z.d) := set_beside (by decide) (c_a_4)
  have n_f_a_4 : (w7.setCell ⟨w4.heap.size, 1, none⟩ (.slice Pps ps.length Cps)).frozen? ⟨w4.heap.size, 4, none⟩ = false := set_frozen (f_a_4)
  have n_c_a_5 : (w7.setCell ⟨w4.heap.size, 1, none⟩ (.slice Pps ps.length Cps)).cell? ⟨w4.heap.size, 5, none⟩ = some (.int .i64 Z.n) := set_beside (by decide) (c_a_5)
  have n_f_a_5 : (w7.setCell ⟨w4.heap.size, 1, none⟩ (.slice Pps ps.length Cps)).frozen? ⟨w4.heap.size, 5, none⟩ = false := set_frozen (f_a_5)
  have n_c_a_6 : (w7.setCell ⟨w4.heap.size, 1, none⟩ (.slice Pps ps.length Cps)).cell? ⟨w4.heap.size, 6, none⟩ = some (.int .i64 Z.e) := set_beside (by decide) (c_a_6)
  have n_f_a_6 : (w7.setCell ⟨w4.heap.size, 1, none⟩ (.slice Pps ps.length Cps)).frozen? ⟨w4.heap.size, 6, none⟩ = false := set_frozen (f_a_6)
  have n_c_a_7 : (w7.setCell ⟨w4.heap.size, 1, none⟩ (.slice Pps ps.length Cps)).cell? ⟨w4.heap.size, 7, none⟩ = some (.slice ra Z.ms.length fa) := set_beside (by decide) (c_a_7)
  have n_f_a_7 : (w7.setCell ⟨w4.heap.size, 1, none⟩ (.slice Pps ps.length Cps)).frozen? ⟨w4.heap.size, 7, none⟩ = false := set_frozen (f_a_7)
  have n_c_a_8 : (w7.setCell ⟨w4.heap.size, 1, none⟩ (.slice Pps ps.length Cps)).cell? ⟨w4.heap.size, 8, none⟩ = some (.string Z.s) := set_beside (by decide) (c_a_8)
  have n_f_a_8 : (w7.setCell ⟨w4.heap.size, 1, none⟩ (.slice Pps ps.length Cps)).frozen? ⟨w4.heap.size, 8, none⟩ = false := set_frozen (f_a_8)
  have n_c_b_0 : (w7.setCell ⟨w4.heap.size, 1, none⟩ (.slice Pps ps.length Cps)).cell? ⟨w6.heap.size, 0, none⟩ = some (.int .i64 k) := set_far (by omega) (c_b_0)
  have n_c_b_1 : (w7.setCell ⟨w4.heap.size, 1, none⟩ (.slice Pps ps.length Cps)).cell? ⟨w6.heap.size, 1, none⟩ = some (.slice pb ps.length cb) := set_far (by omega) (c_b_1)
  have n_c_b_2 : (w7.setCell ⟨w4.heap.size, 1, none⟩ (.slice Pps ps.length Cps)).cell? ⟨w6.heap.size, 2, none⟩ = some (.slice qb ts.length db) := set_far (by omega) (c_b_2)
  have n_c_b_3 : (w7.setCell ⟨w4.heap.size, 1, none⟩ (.slice Pps ps.length Cps)).cell? ⟨w6.heap.size, 3, none⟩ = some (.int .i64 b) := set_far (by omega) (c_b_3)
  have n_c_b_4 : (w7.setCell ⟨w4.heap.size, 1, none⟩ (.slice Pps ps.length Cps)).cell? ⟨w6.heap.size, 4, none⟩ = some (.int .i64 d) := set_far (by omega) (c_b_4)
  have n_c_b_5 : (w7.setCell ⟨w4.heap.size, 1, none⟩ (.slice Pps ps.length Cps)).cell? ⟨w6.heap.size, 5, none⟩ = some (.int .i64 n) := set_far (by omega) (c_b_5)
  have n_c_b_6 : (w7.setCell ⟨w4.heap.size, 1, none⟩ (.slice Pps ps.length Cps)).cell? ⟨w6.heap.size, 6, none⟩ = some (.int .i64 e0) := set_far (by omega) (c_b_6)
  have n_c_b_7 : (w7.setCell ⟨w4.heap.size, 1, none⟩ (.slice Pps ps.length Cps)).cell? ⟨w6.heap.size, 7, none⟩ = some (.slice rb ms.length fb) := set_far (by omega) (c_b_7)
  have n_c_b_8 : (w7.setCell ⟨w4.heap.size, 1, none⟩ (.slice Pps ps.length Cps)).cell? ⟨w6.heap.size, 8, none⟩ = some (.string str) := set_far (by omega) (c_b_8)
  have hB8 : Below w.heap.size w (w7.setCell ⟨w4.heap.size, 1, none⟩ (.slice Pps ps.length Cps)) := (set1_below hB7 (by omega))
  have n_SVa := Lib.hid (SVa.out.set1 (B := w4.heap.size) (o := 1) (x := .slice Pps ps.length Cps) (by omega))
  have HVd : Hid (EvR (w7.setCell ⟨w4.heap.size, 1, none⟩ (.slice Pps ps.length Cps)) (.slice pb ps.length cb) (.slice qb ts.length db) (.slice rb ms.length fb) (⟨k, ps, ts, b, d, n, e0, ms, str⟩ : Ev)) := Lib.hid ⟨HVc.out.ps.set (base := w5.heap.size) HOb.out.1 z_ab, HVc.out.ts.set (base := w5.heap.size) HOb.out.2.1 z_ab, HVc.out.ms.set (base := w5.heap.size) HOb.out.2.2 z_ab, HVc.out.sz⟩
  clear c_e_0 c_e_1 c_e_2 c_e_3 c_e_4 c_e_5 c_e_6 c_e_7 c_e_8 c_g_0 c_g_1 c_a_0 c_a_1 c_a_2 c_a_3 c_a_4 c_a_5 c_a_6 c_a_7 c_a_8 c_b_0 c_b_1 c_b_2 c_b_3 c_b_4 c_b_5 c_b_6 c_b_7 c_b_8 f_a_0 f_a_1 f_a_2 f_a_3 f_a_4 f_a_5 f_a_6 f_a_7 f_a_8 SVa hB7 z_a z_b z_e z_g
  have c_e_0 := n_c_e_0
  clear n_c_e_0
  have c_e_1 := n_c_e_1
  clear n_c_e_1
  have c_e_2 := n_c_e_2
  clear n_c_e_2
  have c_e_3 := n_c_e_3
  clear n_c_e_3
  have c_e_4 := n_c_e_4
  clear n_c_e_4
  have c_e_5 := n_c_e_5
  clear n_c_e_5
  have c_e_6 := n_c_e_6
  clear n_c_e_6
  have c_e_7 := n_c_e_7
  clear n_c_e_7
  have c_e_8 := n_c_e_8
  clear n_c_e_8
  have c_g_0 := n_c_g_0
  clear n_c_g_0
  have c_g_1 := n_c_g_1
  clear n_c_g_1
  have c_a_0 := n_c_a_0
  clear n_c_a_0
  have c_a_1 := n_c_a_1
  clear n_c_a_1
  have c_a_2 := n_c_a_2
  clear n_c_a_2
  have c_a_3 := n_c_a_3
  clear n_c_a_3
  have c_a_4 := n_c_a_4
  clear n_c_a_4
  have c_a_5 := n_c_a_5
  clear n_c_a_5
  have c_a_6 := n_c_a_6
  clear n_c_a_6
  have c_a_7 := n_c_a_7
  clear n_c_a_7
  have c_a_8 := n_c_a_8
  clear n_c_a_8
  have c_b_0 := n_c_b_0
  clear n_c_b_0
  have c_b_1 := n_c_b_1
  clear n_c_b_1
  have c_b_2 := n_c_b_2
  clear n_c_b_2
  have c_b_3 := n_c_b_3
  clear n_c_b_3
  have c_b_4 := n_c_b_4
  clear n_c_b_4
  have c_b_5 := n_c_b_5
  clear n_c_b_5
  have c_b_6 := n_c_b_6
  clear n_c_b_6
  have c_b_7 := n_c_b_7
  clear n_c_b_7
  have c_b_8 := n_c_b_8
  clear n_c_b_8
  have f_a_0 := n_f_a_0
  clear n_f_a_0
  have f_a_1 := n_f_a_1
  clear n_f_a_1
  have f_a_2 := n_f_a_2
  clear n_f_a_2
  have f_a_3 := n_f_a_3
  clear n_f_a_3
  have f_a_4 := n_f_a_4
  clear n_f_a_4
  have f_a_5 := n_f_a_5
  clear n_f_a_5
  have f_a_6 := n_f_a_6
  clear n_f_a_6
  have f_a_7 := n_f_a_7
  clear n_f_a_7
  have f_a_8 := n_f_a_8
  clear n_f_a_8
  have SVa := n_SVa
  clear n_SVa
  generalize w7.setCell ⟨w4.heap.size, 1, none⟩ (.slice Pps ps.length Cps) = w8 at *
  have z_a : w4.heap.size < _ := World.block_lt_of_cell? _ _ c_a_0
  have z_b : w6.heap.size < _ := World.block_lt_of_cell? _ _ c_b_0
  have z_e : w.heap.size < _ := World.block_lt_of_cell? _ _ c_e_0
  have z_g : w.heap.size + 1 < _ := World.block_lt_of_cell? _ _ c_g_0
  have SVd : Hid (Since w8 w8) := Lib.hid (Since.refl _)
  clear HVc
  go_wp2_with fail
  have hR' := hR.below hB8
  refine (esame_is (x := { Z with ps := ps }) (y := (⟨k, ps, ts, b, d, n, e0, ms, str⟩ : Ev)) (by rw [HZ.out, sameE_self]) _ _ _ _ _ _ _ ⟨((HX0.out.later hB8)).ps, ((HVa.out.later (below_two SVa.out (Below.refl _ _)))).ts, ((HVa.out.later (below_two SVa.out (Below.refl _ _)))).ms, HVa.out.sz⟩ (HX0.out.later hB8)).mono ?_
  rintro e w9 ⟨rfl, hb9⟩
  clear hR'
  have hs9 := hb9
  replace SVa := Lib.hid (SVa.out.later hs9)
  replace SVd := Lib.hid (SVd.out.later hs9)
  replace c_e_0 := cell_later hs9 c_e_0
  replace c_e_1 := cell_later hs9 c_e_1
  replace c_e_2 := cell_later hs9 c_e_2
  replace c_e_3 := cell_later hs9 c_e_3
  replace c_e_4 := cell_later hs9 c_e_4
  replace c_e_5 := cell_later hs9 c_e_5
  replace c_e_6 := cell_later hs9 c_e_6
  replace c_e_7 := cell_later hs9 c_e_7
  replace c_e_8 := cell_later hs9 c_e_8
  replace c_g_0 := cell_later hs9 c_g_0
  replace c_g_1 := cell_later hs9 c_g_1
  replace f_a_0 := frozen_later hs9 c_a_0 f_a_0
  replace c_a_0 := cell_later hs9 c_a_0
  replace f_a_1 := frozen_later hs9 c_a_1 f_a_1
  replace c_a_1 := cell_later hs9 c_a_1
  replace f_a_2 := frozen_later hs9 c_a_2 f_a_2
  replace c_a_2 := cell_later hs9 c_a_2
  replace f_a_3 := frozen_later hs9 c_a_3 f_a_3
  replace c_a_3 := cell_later hs9 c_a_3
  replace f_a_4 := frozen_later hs9 c_a_4 f_a_4
  replace c_a_4 := cell_later hs9 c_a_4
  replace f_a_5 := frozen_later hs9 c_a_5 f_a_5
  replace c_a_5 := cell_later hs9 c_a_5
  replace f_a_6 := frozen_later hs9 c_a_6 f_a_6
  replace c_a_6 := cell_later hs9 c_a_6
  replace f_a_7 := frozen_later hs9 c_a_7 f_a_7
  replace c_a_7 := cell_later hs9 c_a_7
  replace f_a_8 := frozen_later hs9 c_a_8 f_a_8
  replace c_a_8 := cell_later hs9 c_a_8
  replace c_b_0 := cell_later hs9 c_b_0
  replace c_b_1 := cell_later hs9 c_b_1
  replace c_b_2 := cell_later hs9 c_b_2
  replace c_b_3 := cell_later hs9 c_b_3
  replace c_b_4 := cell_later hs9 c_b_4
  replace c_b_5 := cell_later hs9 c_b_5
  replace c_b_6 := cell_later hs9 c_b_6
  replace c_b_7 := cell_later hs9 c_b_7
  replace c_b_8 := cell_later hs9 c_b_8
  clear z_a
  have z_a : w4.heap.size < _ := World.block_lt_of_cell? _ _ c_a_0
  clear z_b
  have z_b : w6.heap.size < _ := World.block_lt_of_cell? _ _ c_b_0
  clear z_e
  have z_e : w.heap.size < _ := World.block_lt_of_cell? _ _ c_e_0
  clear z_g
  have z_g : w.heap.size + 1 < _ := World.block_lt_of_cell? _ _ c_g_0
  have hB9 := below_two hB8 hs9
  clear hB8 hs9
  go_wp2_with fail
  have hR' := hR.below hB9
  refine (esame_is (x := (⟨k, ps, ts, b, d, n, e0, ms, str⟩ : Ev)) (y := (⟨k, ps, ts, b, d, n, e0, ms, str⟩ : Ev)) (sameE_self _) _ _ _ _ _ _ _ (HVd.out.later SVd.out) (HX0.out.later hB9)).mono ?_
  rintro e w10 ⟨rfl, hb10⟩
  clear hR'
  have hs10 := hb10
  replace SVa := Lib.hid (SVa.out.later hs10)
  replace SVd := Lib.hid (SVd.out.later hs10)
  replace c_e_0 := cell_later hs10 c_e_0
  replace c_e_1 := cell_later hs10 c_e_1
  replace c_e_2 := cell_later hs10 c_e_2
  replace c_e_3 := cell_later hs10 c_e_3
  replace c_e_4 := cell_later hs10 c_e_4
  replace c_e_5 := cell_later hs10 c_e_5
  replace c_e_6 := cell_later hs10 c_e_6
  replace c_e_7 := cell_later hs10 c_e_7
  replace c_e_8 := cell_later hs10 c_e_8
  replace c_g_0 := cell_later hs10 c_g_0
  replace c_g_1 := cell_later hs10 c_g_1
  replace f_a_0 := frozen_later hs10 c_a_0 f_a_0
  replace c_a_0 := cell_later hs10 c_a_0
  replace f_a_1 := frozen_later hs10 c_a_1 f_a_1
  replace c_a_1 := cell_later hs10 c_a_1
  replace f_a_2 := frozen_later hs10 c_a_2 f_a_2
  replace c_a_2 := cell_later hs10 c_a_2
  replace f_a_3 := frozen_later hs10 c_a_3 f_a_3
  replace c_a_3 := cell_later hs10 c_a_3
  replace f_a_4 := frozen_later hs10 c_a_4 f_a_4
  replace c_a_4 := cell_later hs10 c_a_4
  replace f_a_5 := frozen_later hs10 c_a_5 f_a_5
  replace c_a_5 := cell_later hs10 c_a_5
  replace f_a_6 := frozen_later hs10 c_a_6 f_a_6
  replace c_a_6 := cell_later hs10 c_a_6
  replace f_a_7 := frozen_later hs10 c_a_7 f_a_7
  replace c_a_7 := cell_later hs10 c_a_7
  replace f_a_8 := frozen_later hs10 c_a_8 f_a_8
  replace c_a_8 := cell_later hs10 c_a_8
  replace c_b_0 := cell_later hs10 c_b_0
  replace c_b_1 := cell_later hs10 c_b_1
  replace c_b_2 := cell_later hs10 c_b_2
  replace c_b_3 := cell_later hs10 c_b_3
  replace c_b_4 := cell_later hs10 c_b_4
  replace c_b_5 := cell_later hs10 c_b_5
  replace c_b_6 := cell_later hs10 c_b_6
  replace c_b_7 := cell_later hs10 c_b_7
  replace c_b_8 := cell_later hs10 c_b_8
  clear z_a
  have z_a : w4.heap.size < _ := World.block_lt_of_cell? _ _ c_a_0
  clear z_b
  have z_b : w6.heap.size < _ := World.block_lt_of_cell? _ _ c_b_0
  clear z_e
  have z_e : w.heap.size < _ := World.block_lt_of_cell? _ _ c_e_0
  clear z_g
  have z_g : w.heap.size + 1 < _ := World.block_lt_of_cell? _ _ c_g_0
  have hB10 := below_two hB9 hs10
  clear hB9 hs10
  go_wp2
  go_ret
  exact ⟨rfl, hB10⟩

theorem upBack_any (x : Ev) (vp vt vm : Value) (S H : Int) (w : World) (h : EvR w vp vt vm x) (hR : Ready w) : Calls Tryd.prog 7 #[evv x vp vt vm, iv S H] w fun ed w' => ed = .returned (.bool true) ∧ Below w.heap.size w w' := by
  cases hq : fewE x
  · exact upBack_few x vp vt vm S H w h hR hq
  · by_cases h0 : (Evt.upE S H x).2 = 0
    · have hu : Evt.upE S H x = ((Evt.upE S H x).1, 0) := by rw [← h0]
      obtain ⟨e1, e2⟩ := Evt.upE_neg hu
      exact upBack_ok x vp vt vm S H (Evt.upE S H x).1 w h hR hq hu e1 e2
    · have hz := Evt.upE_bad h0
      exact upBack_bad x vp vt vm S H (Evt.upE S H x).2 w h hR hq (by rw [← hz]) (beq_eq_false_iff_ne.2 h0)
end Go.Proofs.YtoiankbopjaamaaDoor
