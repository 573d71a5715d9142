/-
  EventUps answers true: the law's walk.
-/
import Derived.Test.YtnfnonlbokddfaaDoorEvLaw
import Derived.Test.YtnfnonlbokddfaaDoorEvRefS
import Derived.Test.YtnfnonlbokddfaaDoorEvRefU
namespace Go.Proofs.YtnfnonlbokddfaaDoor
open Go.RowKit
open Evt (P3 Ev)

theorem refEUp_any (x : Ev) (vp vt vm : Value) (S H : Int) (w : World) (h : EvR w vp vt vm x) : Calls Tryd.prog 15 #[evv x vp vt vm, iv S H] w (EvRes (Evt.upE S H x) w) := by
  cases hr : Evt.right x
  · have e : Evt.upE S H x = (Evt.zero, 60) := by unfold Evt.upE; rw [hr]; rfl
    rw [e]
    exact (refUp_no x vp vt vm S H w h (Lib.hid hr)).mono fun _ _ ⟨a, b⟩ => evRes_zero a b
  · exact refUp_walk x vp vt vm S H w h (Lib.hid hr)
theorem refEUp_is {x y : Ev} {e S H : Int} (hq : Evt.upE S H x = (y, e)) (vp vt vm : Value) (w : World) (h : EvR w vp vt vm x) : Calls Tryd.prog 15 #[evv x vp vt vm, iv S H] w (EvRes (y, e) w) := by rw [← hq]; exact refEUp_any x vp vt vm S H w h

set_option maxRecDepth 100000 in
set_option maxHeartbeats 40000000 in
theorem ups_few (x : Ev) (vp vt vm : Value) (S H : Int) (w : World) (h0 : EvR w vp vt vm x) (hR : Ready w) (hq : fewE x = false):
    Calls Tryd.prog 3 #[evv x vp vt vm, iv S H] w fun ed w' => ed = .returned (.bool true) ∧ Below w.heap.size w w' := by
  have hgR := guardR
  have hgV := guardV
  have heR := eql_rt
  have hsR := eqR_self
  have hsP := eqP_self
  have hgP := guardP
  have heP := eql_pt
  have HQ := Lib.hid hq
  clear hq
  obtain ⟨k, ps, ts, b, d, n, e0, ms, str⟩ := x
  have HX0 := Lib.hid h0
  obtain ⟨Pps, Cps, e1, _⟩ := sl_shape h0.ps
  obtain ⟨Pts, Cts, e2, _⟩ := sl_shape h0.ts
  obtain ⟨Pms, Cms, e3, _⟩ := sl_shape h0.ms
  dsimp only at e1 e2 e3
  subst e1 e2 e3
  clear h0
  have hB0 : Below w.heap.size w w := Below.refl _ _
  go_enter Tryd.func3, Tryd.ntmps3
  go_wp2_with fail
  have hR' := hR.below ((hB0.alloc hB0.size (.cells #[.int .i64 k, .slice Pps ps.length Cps, .slice Pts ts.length Cts, .int .i64 b, .int .i64 d, .int .i64 n, .int .i64 e0, .slice Pms ms.length Cms, .string str] 28)).alloc (hB0.alloc hB0.size (.cells #[.int .i64 k, .slice Pps ps.length Cps, .slice Pts ts.length Cts, .int .i64 b, .int .i64 d, .int .i64 n, .int .i64 e0, .slice Pms ms.length Cms, .string str] 28)).size (.cells #[.int .i64 S, .int .i64 H] 30))
  refine (awake_any _ hR').mono ?_
  rintro e w1 ⟨rfl, hb1⟩
  clear hR'
  have hs1 : Below w.heap.size w w1 := Below.trans (by repeat (first | exact Below.refl _ _ | refine Below.alloc ?_ (by simp <;> omega) _)) (hb1.mono (by simp <;> omega))
  have c_e_0 : w1.cell? ⟨w.heap.size, 0, none⟩ = some (.int .i64 k) := (hb1.cell (by simp <;> omega)).trans (by go_simp)
  have c_e_1 : w1.cell? ⟨w.heap.size, 1, none⟩ = some (.slice Pps ps.length Cps) := (hb1.cell (by simp <;> omega)).trans (by go_simp)
  have c_e_2 : w1.cell? ⟨w.heap.size, 2, none⟩ = some (.slice Pts ts.length Cts) := (hb1.cell (by simp <;> omega)).trans (by go_simp)
  have c_e_3 : w1.cell? ⟨w.heap.size, 3, none⟩ = some (.int .i64 b) := (hb1.cell (by simp <;> omega)).trans (by go_simp)
  have c_e_4 : w1.cell? ⟨w.heap.size, 4, none⟩ = some (.int .i64 d) := (hb1.cell (by simp <;> omega)).trans (by go_simp)
  have c_e_5 : w1.cell? ⟨w.heap.size, 5, none⟩ = some (.int .i64 n) := (hb1.cell (by simp <;> omega)).trans (by go_simp)
  have c_e_6 : w1.cell? ⟨w.heap.size, 6, none⟩ = some (.int .i64 e0) := (hb1.cell (by simp <;> omega)).trans (by go_simp)
  have c_e_7 : w1.cell? ⟨w.heap.size, 7, none⟩ = some (.slice Pms ms.length Cms) := (hb1.cell (by simp <;> omega)).trans (by go_simp)
  have c_e_8 : w1.cell? ⟨w.heap.size, 8, none⟩ = some (.string str) := (hb1.cell (by simp <;> omega)).trans (by go_simp)
  have c_g_0 : w1.cell? ⟨w.heap.size + 1, 0, none⟩ = some (.int .i64 S) := (hb1.cell (by simp <;> omega)).trans (by go_simp)
  have c_g_1 : w1.cell? ⟨w.heap.size + 1, 1, none⟩ = some (.int .i64 H) := (hb1.cell (by simp <;> omega)).trans (by go_simp)
  have z_e : w.heap.size < _ := World.block_lt_of_cell? _ _ c_e_0
  have z_g : w.heap.size + 1 < _ := World.block_lt_of_cell? _ _ c_g_0
  have hB1 := below_two hB0 hs1
  clear hB0 hs1 hb1
  go_wp2_with fail
  have hs2 : Below w1.heap.size w1 w1 := by repeat (first | exact Below.refl _ _ | refine Below.alloc ?_ (by simp <;> omega) _)
  replace c_e_0 := cell_later hs2 c_e_0
  replace c_e_1 := cell_later hs2 c_e_1
  replace c_e_2 := cell_later hs2 c_e_2
  replace c_e_3 := cell_later hs2 c_e_3
  replace c_e_4 := cell_later hs2 c_e_4
  replace c_e_5 := cell_later hs2 c_e_5
  replace c_e_6 := cell_later hs2 c_e_6
  replace c_e_7 := cell_later hs2 c_e_7
  replace c_e_8 := cell_later hs2 c_e_8
  replace c_g_0 := cell_later hs2 c_g_0
  replace c_g_1 := cell_later hs2 c_g_1
  have hB2 := below_two hB1 hs2
  clear hB1 hs2
  have y2_e := z_e
  have y2_g := z_g
  generalize w1 = w2 at *
  clear z_e
  have z_e : w.heap.size < _ := World.block_lt_of_cell? _ _ c_e_0
  clear z_g
  have z_g : w.heap.size + 1 < _ := World.block_lt_of_cell? _ _ c_g_0
  go_wp2_with fail
  have hR' := hR.below hB2
  refine (few_is HQ.out _ _ _ _ (HX0.out.later hB2)).mono ?_
  rintro e w3 ⟨rfl, hb3⟩
  clear hR'
  have hs3 := hb3
  replace c_e_0 := cell_later hs3 c_e_0
  replace c_e_1 := cell_later hs3 c_e_1
  replace c_e_2 := cell_later hs3 c_e_2
  replace c_e_3 := cell_later hs3 c_e_3
  replace c_e_4 := cell_later hs3 c_e_4
  replace c_e_5 := cell_later hs3 c_e_5
  replace c_e_6 := cell_later hs3 c_e_6
  replace c_e_7 := cell_later hs3 c_e_7
  replace c_e_8 := cell_later hs3 c_e_8
  replace c_g_0 := cell_later hs3 c_g_0
  replace c_g_1 := cell_later hs3 c_g_1
  clear z_e
  have z_e : w.heap.size < _ := World.block_lt_of_cell? _ _ c_e_0
  clear z_g
  have z_g : w.heap.size + 1 < _ := World.block_lt_of_cell? _ _ c_g_0
  have hB3 := below_two hB2 hs3
  clear hB2 hs3
  go_wp2
  go_ret
  exact ⟨rfl, hB3⟩

set_option maxRecDepth 100000 in
set_option maxHeartbeats 40000000 in
theorem ups_bad (x : Ev) (vp vt vm : Value) (S H : Int) (er : Int) (w : World) (h0 : EvR w vp vt vm x) (hR : Ready w) (hq : fewE x = true) (hu : Evt.upE S H x = (Evt.zero, er)):
    Calls Tryd.prog 3 #[evv x vp vt vm, iv S H] w fun ed w' => ed = .returned (.bool true) ∧ Below w.heap.size w w' := by
  have hgR := guardR
  have hgV := guardV
  have heR := eql_rt
  have hsR := eqR_self
  have hsP := eqP_self
  have hgP := guardP
  have heP := eql_pt
  have HQ := Lib.hid hq
  clear hq
  have HU := Lib.hid hu
  clear hu
  obtain ⟨k, ps, ts, b, d, n, e0, ms, str⟩ := x
  have HX0 := Lib.hid h0
  obtain ⟨Pps, Cps, e1, _⟩ := sl_shape h0.ps
  obtain ⟨Pts, Cts, e2, _⟩ := sl_shape h0.ts
  obtain ⟨Pms, Cms, e3, _⟩ := sl_shape h0.ms
  dsimp only at e1 e2 e3
  subst e1 e2 e3
  clear h0
  have hB0 : Below w.heap.size w w := Below.refl _ _
  go_enter Tryd.func3, Tryd.ntmps3
  go_wp2_with fail
  have hR' := hR.below ((hB0.alloc hB0.size (.cells #[.int .i64 k, .slice Pps ps.length Cps, .slice Pts ts.length Cts, .int .i64 b, .int .i64 d, .int .i64 n, .int .i64 e0, .slice Pms ms.length Cms, .string str] 28)).alloc (hB0.alloc hB0.size (.cells #[.int .i64 k, .slice Pps ps.length Cps, .slice Pts ts.length Cts, .int .i64 b, .int .i64 d, .int .i64 n, .int .i64 e0, .slice Pms ms.length Cms, .string str] 28)).size (.cells #[.int .i64 S, .int .i64 H] 30))
  refine (awake_any _ hR').mono ?_
  rintro e w1 ⟨rfl, hb1⟩
  clear hR'
  have hs1 : Below w.heap.size w w1 := Below.trans (by repeat (first | exact Below.refl _ _ | refine Below.alloc ?_ (by simp <;> omega) _)) (hb1.mono (by simp <;> omega))
  have c_e_0 : w1.cell? ⟨w.heap.size, 0, none⟩ = some (.int .i64 k) := (hb1.cell (by simp <;> omega)).trans (by go_simp)
  have c_e_1 : w1.cell? ⟨w.heap.size, 1, none⟩ = some (.slice Pps ps.length Cps) := (hb1.cell (by simp <;> omega)).trans (by go_simp)
  have c_e_2 : w1.cell? ⟨w.heap.size, 2, none⟩ = some (.slice Pts ts.length Cts) := (hb1.cell (by simp <;> omega)).trans (by go_simp)
  have c_e_3 : w1.cell? ⟨w.heap.size, 3, none⟩ = some (.int .i64 b) := (hb1.cell (by simp <;> omega)).trans (by go_simp)
  have c_e_4 : w1.cell? ⟨w.heap.size, 4, none⟩ = some (.int .i64 d) := (hb1.cell (by simp <;> omega)).trans (by go_simp)
  have c_e_5 : w1.cell? ⟨w.heap.size, 5, none⟩ = some (.int .i64 n) := (hb1.cell (by simp <;> omega)).trans (by go_simp)
  have c_e_6 : w1.cell? ⟨w.heap.size, 6, none⟩ = some (.int .i64 e0) := (hb1.cell (by simp <;> omega)).trans (by go_simp)
  have c_e_7 : w1.cell? ⟨w.heap.size, 7, none⟩ = some (.slice Pms ms.length Cms) := (hb1.cell (by simp <;> omega)).trans (by go_simp)
  have c_e_8 : w1.cell? ⟨w.heap.size, 8, none⟩ = some (.string str) := (hb1.cell (by simp <;> omega)).trans (by go_simp)
  have c_g_0 : w1.cell? ⟨w.heap.size + 1, 0, none⟩ = some (.int .i64 S) := (hb1.cell (by simp <;> omega)).trans (by go_simp)
  have c_g_1 : w1.cell? ⟨w.heap.size + 1, 1, none⟩ = some (.int .i64 H) := (hb1.cell (by simp <;> omega)).trans (by go_simp)
  have z_e : w.heap.size < _ := World.block_lt_of_cell? _ _ c_e_0
  have z_g : w.heap.size + 1 < _ := World.block_lt_of_cell? _ _ c_g_0
  have hB1 := below_two hB0 hs1
  clear hB0 hs1 hb1
  go_wp2_with fail
  have hs2 : Below w1.heap.size w1 w1 := by repeat (first | exact Below.refl _ _ | refine Below.alloc ?_ (by simp <;> omega) _)
  replace c_e_0 := cell_later hs2 c_e_0
  replace c_e_1 := cell_later hs2 c_e_1
  replace c_e_2 := cell_later hs2 c_e_2
  replace c_e_3 := cell_later hs2 c_e_3
  replace c_e_4 := cell_later hs2 c_e_4
  replace c_e_5 := cell_later hs2 c_e_5
  replace c_e_6 := cell_later hs2 c_e_6
  replace c_e_7 := cell_later hs2 c_e_7
  replace c_e_8 := cell_later hs2 c_e_8
  replace c_g_0 := cell_later hs2 c_g_0
  replace c_g_1 := cell_later hs2 c_g_1
  have hB2 := below_two hB1 hs2
  clear hB1 hs2
  have y2_e := z_e
  have y2_g := z_g
  generalize w1 = w2 at *
  clear z_e
  have z_e : w.heap.size < _ := World.block_lt_of_cell? _ _ c_e_0
  clear z_g
  have z_g : w.heap.size + 1 < _ := World.block_lt_of_cell? _ _ c_g_0
  go_wp2_with fail
  have hR' := hR.below hB2
  refine (few_is HQ.out _ _ _ _ (HX0.out.later hB2)).mono ?_
  rintro e w3 ⟨rfl, hb3⟩
  clear hR'
  have hs3 := hb3
  replace c_e_0 := cell_later hs3 c_e_0
  replace c_e_1 := cell_later hs3 c_e_1
  replace c_e_2 := cell_later hs3 c_e_2
  replace c_e_3 := cell_later hs3 c_e_3
  replace c_e_4 := cell_later hs3 c_e_4
  replace c_e_5 := cell_later hs3 c_e_5
  replace c_e_6 := cell_later hs3 c_e_6
  replace c_e_7 := cell_later hs3 c_e_7
  replace c_e_8 := cell_later hs3 c_e_8
  replace c_g_0 := cell_later hs3 c_g_0
  replace c_g_1 := cell_later hs3 c_g_1
  clear z_e
  have z_e : w.heap.size < _ := World.block_lt_of_cell? _ _ c_e_0
  clear z_g
  have z_g : w.heap.size + 1 < _ := World.block_lt_of_cell? _ _ c_g_0
  have hB3 := below_two hB2 hs3
  clear hB2 hs3
  go_wp2_with fail
  have hR' := hR.below hB3
  refine (eup_is HU.out _ _ _ _ (HX0.out.later hB3) hR').mono ?_
  rintro e w4 ⟨vp, vt, vm, rfl, hev, hb4⟩
  clear hR'
  have hs4 := hb4
  replace c_e_0 := cell_later hs4 c_e_0
  replace c_e_1 := cell_later hs4 c_e_1
  replace c_e_2 := cell_later hs4 c_e_2
  replace c_e_3 := cell_later hs4 c_e_3
  replace c_e_4 := cell_later hs4 c_e_4
  replace c_e_5 := cell_later hs4 c_e_5
  replace c_e_6 := cell_later hs4 c_e_6
  replace c_e_7 := cell_later hs4 c_e_7
  replace c_e_8 := cell_later hs4 c_e_8
  replace c_g_0 := cell_later hs4 c_g_0
  replace c_g_1 := cell_later hs4 c_g_1
  clear z_e
  have z_e : w.heap.size < _ := World.block_lt_of_cell? _ _ c_e_0
  clear z_g
  have z_g : w.heap.size + 1 < _ := World.block_lt_of_cell? _ _ c_g_0
  have hB4 := below_two hB3 hs4
  clear hB3 hs4
  dsimp only at hev
  obtain ⟨pa, ca, e3, _⟩ := sl_shape hev.ps
  have e3 : vp = .slice pa 0 ca := e3
  obtain ⟨qa, da, e4, _⟩ := sl_shape hev.ts
  have e4 : vt = .slice qa 0 da := e4
  obtain ⟨ra, fa, e5, _⟩ := sl_shape hev.ms
  have e5 : vm = .slice ra 0 fa := e5
  subst e3 e4 e5
  have HVa := Lib.hid hev
  have SVa : Hid (Since w4 w4) := Lib.hid (Since.refl _)
  clear hev
  go_wp2_with fail
  have hR' := hR.below (hB4.alloc hB4.size (.cells #[.int .i64 Evt.zero.k, .slice pa 0 ca, .slice qa 0 da, .int .i64 Evt.zero.b, .int .i64 Evt.zero.d, .int .i64 Evt.zero.n, .int .i64 Evt.zero.e, .slice ra 0 fa, .string Evt.zero.s] 28))
  refine (refEUp_is HU.out _ _ _ _ (HX0.out.later (hB4.alloc hB4.size (.cells #[.int .i64 Evt.zero.k, .slice pa 0 ca, .slice qa 0 da, .int .i64 Evt.zero.b, .int .i64 Evt.zero.d, .int .i64 Evt.zero.n, .int .i64 Evt.zero.e, .slice ra 0 fa, .string Evt.zero.s] 28)))).mono ?_
  rintro e w5 ⟨vp, vt, vm, rfl, hev, hb5⟩
  clear hR'
  have y5_e := z_e
  have y5_g := z_g
  have hs5 : Below w4.heap.size w4 w5 := Below.trans (by repeat (first | exact Below.refl _ _ | refine Below.alloc ?_ (by simp <;> omega) _)) (hb5.mono (by simp <;> omega))
  replace SVa := Lib.hid (SVa.out.later hs5)
  replace c_e_0 := cell_later hs5 c_e_0
  replace c_e_1 := cell_later hs5 c_e_1
  replace c_e_2 := cell_later hs5 c_e_2
  replace c_e_3 := cell_later hs5 c_e_3
  replace c_e_4 := cell_later hs5 c_e_4
  replace c_e_5 := cell_later hs5 c_e_5
  replace c_e_6 := cell_later hs5 c_e_6
  replace c_e_7 := cell_later hs5 c_e_7
  replace c_e_8 := cell_later hs5 c_e_8
  replace c_g_0 := cell_later hs5 c_g_0
  replace c_g_1 := cell_later hs5 c_g_1
  have c_a_0 : w5.cell? ⟨w4.heap.size, 0, none⟩ = some (.int .i64 Evt.zero.k) := (hb5.cell (by simp <;> omega)).trans (by go_simp)
  have c_a_1 : w5.cell? ⟨w4.heap.size, 1, none⟩ = some (.slice pa 0 ca) := (hb5.cell (by simp <;> omega)).trans (by go_simp)
  have c_a_2 : w5.cell? ⟨w4.heap.size, 2, none⟩ = some (.slice qa 0 da) := (hb5.cell (by simp <;> omega)).trans (by go_simp)
  have c_a_3 : w5.cell? ⟨w4.heap.size, 3, none⟩ = some (.int .i64 Evt.zero.b) := (hb5.cell (by simp <;> omega)).trans (by go_simp)
  have c_a_4 : w5.cell? ⟨w4.heap.size, 4, none⟩ = some (.int .i64 Evt.zero.d) := (hb5.cell (by simp <;> omega)).trans (by go_simp)
  have c_a_5 : w5.cell? ⟨w4.heap.size, 5, none⟩ = some (.int .i64 Evt.zero.n) := (hb5.cell (by simp <;> omega)).trans (by go_simp)
  have c_a_6 : w5.cell? ⟨w4.heap.size, 6, none⟩ = some (.int .i64 Evt.zero.e) := (hb5.cell (by simp <;> omega)).trans (by go_simp)
  have c_a_7 : w5.cell? ⟨w4.heap.size, 7, none⟩ = some (.slice ra 0 fa) := (hb5.cell (by simp <;> omega)).trans (by go_simp)
  have c_a_8 : w5.cell? ⟨w4.heap.size, 8, none⟩ = some (.string Evt.zero.s) := (hb5.cell (by simp <;> omega)).trans (by go_simp)
  have z_a : w4.heap.size < _ := World.block_lt_of_cell? _ _ c_a_0
  clear z_e
  have z_e : w.heap.size < _ := World.block_lt_of_cell? _ _ c_e_0
  clear z_g
  have z_g : w.heap.size + 1 < _ := World.block_lt_of_cell? _ _ c_g_0
  have hB5 := below_two hB4 hs5
  clear hB4 hs5 hb5
  dsimp only at hev
  obtain ⟨pb, cb, e3, _⟩ := sl_shape hev.ps
  have e3 : vp = .slice pb 0 cb := e3
  obtain ⟨qb, db, e4, _⟩ := sl_shape hev.ts
  have e4 : vt = .slice qb 0 db := e4
  obtain ⟨rb, fb, e5, _⟩ := sl_shape hev.ms
  have e5 : vm = .slice rb 0 fb := e5
  subst e3 e4 e5
  have HVb := Lib.hid hev
  have SVb : Hid (Since w5 w5) := Lib.hid (Since.refl _)
  clear hev
  go_wp2_with fail
  have hR' := hR.below (hB5.alloc hB5.size (.cells #[.int .i64 Evt.zero.k, .slice pb 0 cb, .slice qb 0 db, .int .i64 Evt.zero.b, .int .i64 Evt.zero.d, .int .i64 Evt.zero.n, .int .i64 Evt.zero.e, .slice rb 0 fb, .string Evt.zero.s] 28))
  refine (refSame_is (x := Evt.zero) (y := Evt.zero) (sameE_self _) _ _ _ _ _ _ _ (HVa.out.later (below_two SVa.out (by repeat (first | exact Below.refl _ _ | refine Below.alloc ?_ (by simp <;> omega) _)))) (HVb.out.later (below_two SVb.out (by repeat (first | exact Below.refl _ _ | refine Below.alloc ?_ (by simp <;> omega) _))))).mono ?_
  rintro e w6 ⟨rfl, hb6⟩
  clear hR'
  have y6_a := z_a
  have y6_e := z_e
  have y6_g := z_g
  have hs6 : Below w5.heap.size w5 w6 := Below.trans (by repeat (first | exact Below.refl _ _ | refine Below.alloc ?_ (by simp <;> omega) _)) (hb6.mono (by simp <;> omega))
  replace SVa := Lib.hid (SVa.out.later hs6)
  replace SVb := Lib.hid (SVb.out.later hs6)
  replace c_e_0 := cell_later hs6 c_e_0
  replace c_e_1 := cell_later hs6 c_e_1
  replace c_e_2 := cell_later hs6 c_e_2
  replace c_e_3 := cell_later hs6 c_e_3
  replace c_e_4 := cell_later hs6 c_e_4
  replace c_e_5 := cell_later hs6 c_e_5
  replace c_e_6 := cell_later hs6 c_e_6
  replace c_e_7 := cell_later hs6 c_e_7
  replace c_e_8 := cell_later hs6 c_e_8
  replace c_g_0 := cell_later hs6 c_g_0
  replace c_g_1 := cell_later hs6 c_g_1
  replace c_a_0 := cell_later hs6 c_a_0
  replace c_a_1 := cell_later hs6 c_a_1
  replace c_a_2 := cell_later hs6 c_a_2
  replace c_a_3 := cell_later hs6 c_a_3
  replace c_a_4 := cell_later hs6 c_a_4
  replace c_a_5 := cell_later hs6 c_a_5
  replace c_a_6 := cell_later hs6 c_a_6
  replace c_a_7 := cell_later hs6 c_a_7
  replace c_a_8 := cell_later hs6 c_a_8
  have c_b_0 : w6.cell? ⟨w5.heap.size, 0, none⟩ = some (.int .i64 Evt.zero.k) := (hb6.cell (by simp <;> omega)).trans (by go_simp)
  have c_b_1 : w6.cell? ⟨w5.heap.size, 1, none⟩ = some (.slice pb 0 cb) := (hb6.cell (by simp <;> omega)).trans (by go_simp)
  have c_b_2 : w6.cell? ⟨w5.heap.size, 2, none⟩ = some (.slice qb 0 db) := (hb6.cell (by simp <;> omega)).trans (by go_simp)
  have c_b_3 : w6.cell? ⟨w5.heap.size, 3, none⟩ = some (.int .i64 Evt.zero.b) := (hb6.cell (by simp <;> omega)).trans (by go_simp)
  have c_b_4 : w6.cell? ⟨w5.heap.size, 4, none⟩ = some (.int .i64 Evt.zero.d) := (hb6.cell (by simp <;> omega)).trans (by go_simp)
  have c_b_5 : w6.cell? ⟨w5.heap.size, 5, none⟩ = some (.int .i64 Evt.zero.n) := (hb6.cell (by simp <;> omega)).trans (by go_simp)
  have c_b_6 : w6.cell? ⟨w5.heap.size, 6, none⟩ = some (.int .i64 Evt.zero.e) := (hb6.cell (by simp <;> omega)).trans (by go_simp)
  have c_b_7 : w6.cell? ⟨w5.heap.size, 7, none⟩ = some (.slice rb 0 fb) := (hb6.cell (by simp <;> omega)).trans (by go_simp)
  have c_b_8 : w6.cell? ⟨w5.heap.size, 8, none⟩ = some (.string Evt.zero.s) := (hb6.cell (by simp <;> omega)).trans (by go_simp)
  clear z_a
  have z_a : w4.heap.size < _ := World.block_lt_of_cell? _ _ c_a_0
  have z_b : w5.heap.size < _ := World.block_lt_of_cell? _ _ c_b_0
  clear z_e
  have z_e : w.heap.size < _ := World.block_lt_of_cell? _ _ c_e_0
  clear z_g
  have z_g : w.heap.size + 1 < _ := World.block_lt_of_cell? _ _ c_g_0
  have hB6 := below_two hB5 hs6
  clear hB5 hs6 hb6
  go_wp2
  go_ret
  exact ⟨rfl, hB6⟩

set_option maxRecDepth 100000 in
set_option maxHeartbeats 40000000 in
theorem ups_ok (x : Ev) (vp vt vm : Value) (S H : Int) (Z : Ev) (w : World) (h0 : EvR w vp vt vm x) (hR : Ready w) (hq : fewE x = true) (hu : Evt.upE S H x = (Z, 0)):
    Calls Tryd.prog 3 #[evv x vp vt vm, iv S H] w fun ed w' => ed = .returned (.bool true) ∧ Below w.heap.size w w' := by
  have hgR := guardR
  have hgV := guardV
  have heR := eql_rt
  have hsR := eqR_self
  have hsP := eqP_self
  have hgP := guardP
  have heP := eql_pt
  have HQ := Lib.hid hq
  clear hq
  have HU := Lib.hid hu
  clear hu
  obtain ⟨k, ps, ts, b, d, n, e0, ms, str⟩ := x
  have HX0 := Lib.hid h0
  obtain ⟨Pps, Cps, e1, _⟩ := sl_shape h0.ps
  obtain ⟨Pts, Cts, e2, _⟩ := sl_shape h0.ts
  obtain ⟨Pms, Cms, e3, _⟩ := sl_shape h0.ms
  dsimp only at e1 e2 e3
  subst e1 e2 e3
  clear h0
  have hB0 : Below w.heap.size w w := Below.refl _ _
  go_enter Tryd.func3, Tryd.ntmps3
  go_wp2_with fail
  have hR' := hR.below ((hB0.alloc hB0.size (.cells #[.int .i64 k, .slice Pps ps.length Cps, .slice Pts ts.length Cts, .int .i64 b, .int .i64 d, .int .i64 n, .int .i64 e0, .slice Pms ms.length Cms, .string str] 28)).alloc (hB0.alloc hB0.size (.cells #[.int .i64 k, .slice Pps ps.length Cps, .slice Pts ts.length Cts, .int .i64 b, .int .i64 d, .int .i64 n, .int .i64 e0, .slice Pms ms.length Cms, .string str] 28)).size (.cells #[.int .i64 S, .int .i64 H] 30))
  refine (awake_any _ hR').mono ?_
  rintro e w1 ⟨rfl, hb1⟩
  clear hR'
  have hs1 : Below w.heap.size w w1 := Below.trans (by repeat (first | exact Below.refl _ _ | refine Below.alloc ?_ (by simp <;> omega) _)) (hb1.mono (by simp <;> omega))
  have c_e_0 : w1.cell? ⟨w.heap.size, 0, none⟩ = some (.int .i64 k) := (hb1.cell (by simp <;> omega)).trans (by go_simp)
  have c_e_1 : w1.cell? ⟨w.heap.size, 1, none⟩ = some (.slice Pps ps.length Cps) := (hb1.cell (by simp <;> omega)).trans (by go_simp)
  have c_e_2 : w1.cell? ⟨w.heap.size, 2, none⟩ = some (.slice Pts ts.length Cts) := (hb1.cell (by simp <;> omega)).trans (by go_simp)
  have c_e_3 : w1.cell? ⟨w.heap.size, 3, none⟩ = some (.int .i64 b) := (hb1.cell (by simp <;> omega)).trans (by go_simp)
  have c_e_4 : w1.cell? ⟨w.heap.size, 4, none⟩ = some (.int .i64 d) := (hb1.cell (by simp <;> omega)).trans (by go_simp)
  have c_e_5 : w1.cell? ⟨w.heap.size, 5, none⟩ = some (.int .i64 n) := (hb1.cell (by simp <;> omega)).trans (by go_simp)
  have c_e_6 : w1.cell? ⟨w.heap.size, 6, none⟩ = some (.int .i64 e0) := (hb1.cell (by simp <;> omega)).trans (by go_simp)
  have c_e_7 : w1.cell? ⟨w.heap.size, 7, none⟩ = some (.slice Pms ms.length Cms) := (hb1.cell (by simp <;> omega)).trans (by go_simp)
  have c_e_8 : w1.cell? ⟨w.heap.size, 8, none⟩ = some (.string str) := (hb1.cell (by simp <;> omega)).trans (by go_simp)
  have c_g_0 : w1.cell? ⟨w.heap.size + 1, 0, none⟩ = some (.int .i64 S) := (hb1.cell (by simp <;> omega)).trans (by go_simp)
  have c_g_1 : w1.cell? ⟨w.heap.size + 1, 1, none⟩ = some (.int .i64 H) := (hb1.cell (by simp <;> omega)).trans (by go_simp)
  have z_e : w.heap.size < _ := World.block_lt_of_cell? _ _ c_e_0
  have z_g : w.heap.size + 1 < _ := World.block_lt_of_cell? _ _ c_g_0
  have hB1 := below_two hB0 hs1
  clear hB0 hs1 hb1
  go_wp2_with fail
  have hs2 : Below w1.heap.size w1 w1 := by repeat (first | exact Below.refl _ _ | refine Below.alloc ?_ (by simp <;> omega) _)
  replace c_e_0 := cell_later hs2 c_e_0
  replace c_e_1 := cell_later hs2 c_e_1
  replace c_e_2 := cell_later hs2 c_e_2
  replace c_e_3 := cell_later hs2 c_e_3
  replace c_e_4 := cell_later hs2 c_e_4
  replace c_e_5 := cell_later hs2 c_e_5
  replace c_e_6 := cell_later hs2 c_e_6
  replace c_e_7 := cell_later hs2 c_e_7
  replace c_e_8 := cell_later hs2 c_e_8
  replace c_g_0 := cell_later hs2 c_g_0
  replace c_g_1 := cell_later hs2 c_g_1
  have hB2 := below_two hB1 hs2
  clear hB1 hs2
  have y2_e := z_e
  have y2_g := z_g
  generalize w1 = w2 at *
  clear z_e
  have z_e : w.heap.size < _ := World.block_lt_of_cell? _ _ c_e_0
  clear z_g
  have z_g : w.heap.size + 1 < _ := World.block_lt_of_cell? _ _ c_g_0
  go_wp2_with fail
  have hR' := hR.below hB2
  refine (few_is HQ.out _ _ _ _ (HX0.out.later hB2)).mono ?_
  rintro e w3 ⟨rfl, hb3⟩
  clear hR'
  have hs3 := hb3
  replace c_e_0 := cell_later hs3 c_e_0
  replace c_e_1 := cell_later hs3 c_e_1
  replace c_e_2 := cell_later hs3 c_e_2
  replace c_e_3 := cell_later hs3 c_e_3
  replace c_e_4 := cell_later hs3 c_e_4
  replace c_e_5 := cell_later hs3 c_e_5
  replace c_e_6 := cell_later hs3 c_e_6
  replace c_e_7 := cell_later hs3 c_e_7
  replace c_e_8 := cell_later hs3 c_e_8
  replace c_g_0 := cell_later hs3 c_g_0
  replace c_g_1 := cell_later hs3 c_g_1
  clear z_e
  have z_e : w.heap.size < _ := World.block_lt_of_cell? _ _ c_e_0
  clear z_g
  have z_g : w.heap.size + 1 < _ := World.block_lt_of_cell? _ _ c_g_0
  have hB3 := below_two hB2 hs3
  clear hB2 hs3
  go_wp2_with fail
  have hR' := hR.below hB3
  refine (eup_is HU.out _ _ _ _ (HX0.out.later hB3) hR').mono ?_
  rintro e w4 ⟨vp, vt, vm, rfl, hev, hb4⟩
  clear hR'
  have hs4 := hb4
  replace c_e_0 := cell_later hs4 c_e_0
  replace c_e_1 := cell_later hs4 c_e_1
  replace c_e_2 := cell_later hs4 c_e_2
  replace c_e_3 := cell_later hs4 c_e_3
  replace c_e_4 := cell_later hs4 c_e_4
  replace c_e_5 := cell_later hs4 c_e_5
  replace c_e_6 := cell_later hs4 c_e_6
  replace c_e_7 := cell_later hs4 c_e_7
  replace c_e_8 := cell_later hs4 c_e_8
  replace c_g_0 := cell_later hs4 c_g_0
  replace c_g_1 := cell_later hs4 c_g_1
  clear z_e
  have z_e : w.heap.size < _ := World.block_lt_of_cell? _ _ c_e_0
  clear z_g
  have z_g : w.heap.size + 1 < _ := World.block_lt_of_cell? _ _ c_g_0
  have hB4 := below_two hB3 hs4
  clear hB3 hs4
  dsimp only at hev
  obtain ⟨pa, ca, e3, _⟩ := sl_shape hev.ps
  obtain ⟨qa, da, e4, _⟩ := sl_shape hev.ts
  obtain ⟨ra, fa, e5, _⟩ := sl_shape hev.ms
  subst e3 e4 e5
  have HVa := Lib.hid hev
  have SVa : Hid (Since w4 w4) := Lib.hid (Since.refl _)
  clear hev
  go_wp2_with fail
  have hR' := hR.below (hB4.alloc hB4.size (.cells #[.int .i64 Z.k, .slice pa Z.ps.length ca, .slice qa Z.ts.length da, .int .i64 Z.b, .int .i64 Z.d, .int .i64 Z.n, .int .i64 Z.e, .slice ra Z.ms.length fa, .string Z.s] 28))
  refine (refEUp_is HU.out _ _ _ _ (HX0.out.later (hB4.alloc hB4.size (.cells #[.int .i64 Z.k, .slice pa Z.ps.length ca, .slice qa Z.ts.length da, .int .i64 Z.b, .int .i64 Z.d, .int .i64 Z.n, .int .i64 Z.e, .slice ra Z.ms.length fa, .string Z.s] 28)))).mono ?_
  rintro e w5 ⟨vp, vt, vm, rfl, hev, hb5⟩
  clear hR'
  have y5_e := z_e
  have y5_g := z_g
  have hs5 : Below w4.heap.size w4 w5 := Below.trans (by repeat (first | exact Below.refl _ _ | refine Below.alloc ?_ (by simp <;> omega) _)) (hb5.mono (by simp <;> omega))
  replace SVa := Lib.hid (SVa.out.later hs5)
  replace c_e_0 := cell_later hs5 c_e_0
  replace c_e_1 := cell_later hs5 c_e_1
  replace c_e_2 := cell_later hs5 c_e_2
  replace c_e_3 := cell_later hs5 c_e_3
  replace c_e_4 := cell_later hs5 c_e_4
  replace c_e_5 := cell_later hs5 c_e_5
  replace c_e_6 := cell_later hs5 c_e_6
  replace c_e_7 := cell_later hs5 c_e_7
  replace c_e_8 := cell_later hs5 c_e_8
  replace c_g_0 := cell_later hs5 c_g_0
  replace c_g_1 := cell_later hs5 c_g_1
  have c_a_0 : w5.cell? ⟨w4.heap.size, 0, none⟩ = some (.int .i64 Z.k) := (hb5.cell (by simp <;> omega)).trans (by go_simp)
  have c_a_1 : w5.cell? ⟨w4.heap.size, 1, none⟩ = some (.slice pa Z.ps.length ca) := (hb5.cell (by simp <;> omega)).trans (by go_simp)
  have c_a_2 : w5.cell? ⟨w4.heap.size, 2, none⟩ = some (.slice qa Z.ts.length da) := (hb5.cell (by simp <;> omega)).trans (by go_simp)
  have c_a_3 : w5.cell? ⟨w4.heap.size, 3, none⟩ = some (.int .i64 Z.b) := (hb5.cell (by simp <;> omega)).trans (by go_simp)
  have c_a_4 : w5.cell? ⟨w4.heap.size, 4, none⟩ = some (.int .i64 Z.d) := (hb5.cell (by simp <;> omega)).trans (by go_simp)
  have c_a_5 : w5.cell? ⟨w4.heap.size, 5, none⟩ = some (.int .i64 Z.n) := (hb5.cell (by simp <;> omega)).trans (by go_simp)
  have c_a_6 : w5.cell? ⟨w4.heap.size, 6, none⟩ = some (.int .i64 Z.e) := (hb5.cell (by simp <;> omega)).trans (by go_simp)
  have c_a_7 : w5.cell? ⟨w4.heap.size, 7, none⟩ = some (.slice ra Z.ms.length fa) := (hb5.cell (by simp <;> omega)).trans (by go_simp)
  have c_a_8 : w5.cell? ⟨w4.heap.size, 8, none⟩ = some (.string Z.s) := (hb5.cell (by simp <;> omega)).trans (by go_simp)
  have z_a : w4.heap.size < _ := World.block_lt_of_cell? _ _ c_a_0
  clear z_e
  have z_e : w.heap.size < _ := World.block_lt_of_cell? _ _ c_e_0
  clear z_g
  have z_g : w.heap.size + 1 < _ := World.block_lt_of_cell? _ _ c_g_0
  have hB5 := below_two hB4 hs5
  clear hB4 hs5 hb5
  dsimp only at hev
  obtain ⟨pb, cb, e3, _⟩ := sl_shape hev.ps
  obtain ⟨qb, db, e4, _⟩ := sl_shape hev.ts
  obtain ⟨rb, fb, e5, _⟩ := sl_shape hev.ms
  subst e3 e4 e5
  have HVb := Lib.hid hev
  have SVb : Hid (Since w5 w5) := Lib.hid (Since.refl _)
  clear hev
  go_wp2_with fail
  have hR' := hR.below (hB5.alloc hB5.size (.cells #[.int .i64 Z.k, .slice pb Z.ps.length cb, .slice qb Z.ts.length db, .int .i64 Z.b, .int .i64 Z.d, .int .i64 Z.n, .int .i64 Z.e, .slice rb Z.ms.length fb, .string Z.s] 28))
  refine (refSame_is (x := Z) (y := Z) (sameE_self _) _ _ _ _ _ _ _ (HVa.out.later (below_two SVa.out (by repeat (first | exact Below.refl _ _ | refine Below.alloc ?_ (by simp <;> omega) _)))) (HVb.out.later (below_two SVb.out (by repeat (first | exact Below.refl _ _ | refine Below.alloc ?_ (by simp <;> omega) _))))).mono ?_
  rintro e w6 ⟨rfl, hb6⟩
  clear hR'
  have y6_a := z_a
  have y6_e := z_e
  have y6_g := z_g
  have hs6 : Below w5.heap.size w5 w6 := Below.trans (by repeat (first | exact Below.refl _ _ | refine Below.alloc ?_ (by simp <;> omega) _)) (hb6.mono (by simp <;> omega))
  replace SVa := Lib.hid (SVa.out.later hs6)
  replace SVb := Lib.hid (SVb.out.later hs6)
  replace c_e_0 := cell_later hs6 c_e_0
  replace c_e_1 := cell_later hs6 c_e_1
  replace c_e_2 := cell_later hs6 c_e_2
  replace c_e_3 := cell_later hs6 c_e_3
  replace c_e_4 := cell_later hs6 c_e_4
  replace c_e_5 := cell_later hs6 c_e_5
  replace c_e_6 := cell_later hs6 c_e_6
  replace c_e_7 := cell_later hs6 c_e_7
  replace c_e_8 := cell_later hs6 c_e_8
  replace c_g_0 := cell_later hs6 c_g_0
  replace c_g_1 := cell_later hs6 c_g_1
  replace c_a_0 := cell_later hs6 c_a_0
  replace c_a_1 := cell_later hs6 c_a_1
  replace c_a_2 := cell_later hs6 c_a_2
  replace c_a_3 := cell_later hs6 c_a_3
  replace c_a_4 := cell_later hs6 c_a_4
  replace c_a_5 := cell_later hs6 c_a_5
  replace c_a_6 := cell_later hs6 c_a_6
  replace c_a_7 := cell_later hs6 c_a_7
  replace c_a_8 := cell_later hs6 c_a_8
  have c_b_0 : w6.cell? ⟨w5.heap.size, 0, none⟩ = some (.int .i64 Z.k) := (hb6.cell (by simp <;> omega)).trans (by go_simp)
  have c_b_1 : w6.cell? ⟨w5.heap.size, 1, none⟩ = some (.slice pb Z.ps.length cb) := (hb6.cell (by simp <;> omega)).trans (by go_simp)
  have c_b_2 : w6.cell? ⟨w5.heap.size, 2, none⟩ = some (.slice qb Z.ts.length db) := (hb6.cell (by simp <;> omega)).trans (by go_simp)
  have c_b_3 : w6.cell? ⟨w5.heap.size, 3, none⟩ = some (.int .i64 Z.b) := (hb6.cell (by simp <;> omega)).trans (by go_simp)
  have c_b_4 : w6.cell? ⟨w5.heap.size, 4, none⟩ = some (.int .i64 Z.d) := (hb6.cell (by simp <;> omega)).trans (by go_simp)
  have c_b_5 : w6.cell? ⟨w5.heap.size, 5, none⟩ = some (.int .i64 Z.n) := (hb6.cell (by simp <;> omega)).trans (by go_simp)
  have c_b_6 : w6.cell? ⟨w5.heap.size, 6, none⟩ = some (.int .i64 Z.e) := (hb6.cell (by simp <;> omega)).trans (by go_simp)
  have c_b_7 : w6.cell? ⟨w5.heap.size, 7, none⟩ = some (.slice rb Z.ms.length fb) := (hb6.cell (by simp <;> omega)).trans (by go_simp)
  have c_b_8 : w6.cell? ⟨w5.heap.size, 8, none⟩ = some (.string Z.s) := (hb6.cell (by simp <;> omega)).trans (by go_simp)
  clear z_a
  have z_a : w4.heap.size < _ := World.block_lt_of_cell? _ _ c_a_0
  have z_b : w5.heap.size < _ := World.block_lt_of_cell? _ _ c_b_0
  clear z_e
  have z_e : w.heap.size < _ := World.block_lt_of_cell? _ _ c_e_0
  clear z_g
  have z_g : w.heap.size + 1 < _ := World.block_lt_of_cell? _ _ c_g_0
  have hB6 := below_two hB5 hs6
  clear hB5 hs6 hb6
  go_wp2
  go_ret
  exact ⟨rfl, hB6⟩

theorem ups_any (x : Ev) (vp vt vm : Value) (S H : Int) (w : World) (h : EvR w vp vt vm x) (hR : Ready w) : Calls Tryd.prog 3 #[evv x vp vt vm, iv S H] w fun ed w' => ed = .returned (.bool true) ∧ Below w.heap.size w w' := by
  cases hq : fewE x
  · exact ups_few x vp vt vm S H w h hR hq
  · by_cases h0 : (Evt.upE S H x).2 = 0
    · have hu : Evt.upE S H x = ((Evt.upE S H x).1, 0) := by rw [← h0]
      exact ups_ok x vp vt vm S H (Evt.upE S H x).1 w h hR hq hu
    · have hz := Evt.upE_bad h0
      exact ups_bad x vp vt vm S H (Evt.upE S H x).2 w h hR hq (by rw [← hz])
end Go.Proofs.YtnfnonlbokddfaaDoor
