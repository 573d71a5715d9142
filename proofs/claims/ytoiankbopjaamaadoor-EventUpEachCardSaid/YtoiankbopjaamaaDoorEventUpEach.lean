/-
  EventUpEach answers true: the law's walk.
-/
import Derived.Test.YtoiankbopjaamaaDoorEvLaw
namespace Go.Proofs.YtoiankbopjaamaaDoor
open Go.RowKit
open Evt (P3 Ev)

/-- A pitch in a block of its own. -/
def AtP (q0 q1 q2 : Int) (w0 : World) (p : Value) (wx : World) : Prop := ∃ A : Nat, p = .pointer (some ⟨A, 0, none⟩) ∧ wx.cell? ⟨A, 0, none⟩ = some (.int .i64 q0) ∧ wx.cell? ⟨A, 1, none⟩ = some (.int .i64 q1) ∧ wx.cell? ⟨A, 2, none⟩ = some (.int .i64 q2) ∧ Below w0.heap.size w0 wx

set_option maxRecDepth 100000 in
set_option maxHeartbeats 40000000 in
theorem upEach_few (x : Ev) (vp vt vm : Value) (S H a : Int) (w : World) (h0 : EvR w vp vt vm x) (hR : Ready w) (hq : fewE x = false):
    Calls Tryd.prog 8 #[evv x vp vt vm, iv S H, .int .u8 a] w fun ed w' => ed = .returned (.bool true) ∧ Below w.heap.size w w' := by
  have hgR := guardR
  have hgV := guardV
  have heR := eql_rt
  have hsR := eqR_self
  have hsP := eqP_self
  have hgP := guardP
  have heP := eql_pt
  have HQ := Lib.hid hq
  clear hq
  obtain ⟨k, ps, ts, b, d, n, e0, ms, str⟩ := x
  have HX0 := Lib.hid h0
  obtain ⟨Pps, Cps, e1, _⟩ := sl_shape h0.ps
  obtain ⟨Pts, Cts, e2, _⟩ := sl_shape h0.ts
  obtain ⟨Pms, Cms, e3, _⟩ := sl_shape h0.ms
  dsimp only at e1 e2 e3
  subst e1 e2 e3
  clear h0
  have hB0 : Below w.heap.size w w := Below.refl _ _
  go_enter Tryd.func8, Tryd.ntmps8
  go_wp2_with fail
  have hR' := hR.below ((hB0.alloc hB0.size (.cells #[.int .i64 k, .slice Pps ps.length Cps, .slice Pts ts.length Cts, .int .i64 b, .int .i64 d, .int .i64 n, .int .i64 e0, .slice Pms ms.length Cms, .string str] 28)).alloc (hB0.alloc hB0.size (.cells #[.int .i64 k, .slice Pps ps.length Cps, .slice Pts ts.length Cts, .int .i64 b, .int .i64 d, .int .i64 n, .int .i64 e0, .slice Pms ms.length Cms, .string str] 28)).size (.cells #[.int .i64 S, .int .i64 H] 38))
  refine (awake_any _ hR').mono ?_
  rintro e w1 ⟨rfl, hb1⟩
  clear hR'
  have hs1 : Below w.heap.size w w1 := Below.trans (by repeat (first | exact Below.refl _ _ | refine Below.alloc ?_ (by simp <;> omega) _)) (hb1.mono (by simp <;> omega))
  have c_e_0 : w1.cell? ⟨w.heap.size, 0, none⟩ = some (.int .i64 k) := (hb1.cell (by simp <;> omega)).trans (by go_simp)
  have c_e_1 : w1.cell? ⟨w.heap.size, 1, none⟩ = some (.slice Pps ps.length Cps) := (hb1.cell (by simp <;> omega)).trans (by go_simp)
  have c_e_2 : w1.cell? ⟨w.heap.size, 2, none⟩ = some (.slice Pts ts.length Cts) := (hb1.cell (by simp <;> omega)).trans (by go_simp)
  have c_e_3 : w1.cell? ⟨w.heap.size, 3, none⟩ = some (.int .i64 b) := (hb1.cell (by simp <;> omega)).trans (by go_simp)
  have c_e_4 : w1.cell? ⟨w.heap.size, 4, none⟩ = some (.int .i64 d) := (hb1.cell (by simp <;> omega)).trans (by go_simp)
  have c_e_5 : w1.cell? ⟨w.heap.size, 5, none⟩ = some (.int .i64 n) := (hb1.cell (by simp <;> omega)).trans (by go_simp)
  have c_e_6 : w1.cell? ⟨w.heap.size, 6, none⟩ = some (.int .i64 e0) := (hb1.cell (by simp <;> omega)).trans (by go_simp)
  have c_e_7 : w1.cell? ⟨w.heap.size, 7, none⟩ = some (.slice Pms ms.length Cms) := (hb1.cell (by simp <;> omega)).trans (by go_simp)
  have c_e_8 : w1.cell? ⟨w.heap.size, 8, none⟩ = some (.string str) := (hb1.cell (by simp <;> omega)).trans (by go_simp)
  have c_g_0 : w1.cell? ⟨w.heap.size + 1, 0, none⟩ = some (.int .i64 S) := (hb1.cell (by simp <;> omega)).trans (by go_simp)
  have c_g_1 : w1.cell? ⟨w.heap.size + 1, 1, none⟩ = some (.int .i64 H) := (hb1.cell (by simp <;> omega)).trans (by go_simp)
  have z_e : w.heap.size < _ := World.block_lt_of_cell? _ _ c_e_0
  have z_g : w.heap.size + 1 < _ := World.block_lt_of_cell? _ _ c_g_0
  have hB1 := below_two hB0 hs1
  clear hB0 hs1 hb1
  go_wp2_with fail
  have hs2 : Below w1.heap.size w1 w1 := by repeat (first | exact Below.refl _ _ | refine Below.alloc ?_ (by simp <;> omega) _)
  replace c_e_0 := cell_later hs2 c_e_0
  replace c_e_1 := cell_later hs2 c_e_1
  replace c_e_2 := cell_later hs2 c_e_2
  replace c_e_3 := cell_later hs2 c_e_3
  replace c_e_4 := cell_later hs2 c_e_4
  replace c_e_5 := cell_later hs2 c_e_5
  replace c_e_6 := cell_later hs2 c_e_6
  replace c_e_7 := cell_later hs2 c_e_7
  replace c_e_8 := cell_later hs2 c_e_8
  replace c_g_0 := cell_later hs2 c_g_0
  replace c_g_1 := cell_later hs2 c_g_1
  have hB2 := below_two hB1 hs2
  clear hB1 hs2
  have y2_e := z_e
  have y2_g := z_g
  generalize w1 = w2 at *
  clear z_e
  have z_e : w.heap.size < _ := World.block_lt_of_cell? _ _ c_e_0
  clear z_g
  have z_g : w.heap.size + 1 < _ := World.block_lt_of_cell? _ _ c_g_0
  go_wp2_with fail
  have hR' := hR.below hB2
  refine (few_is HQ.out _ _ _ _ (HX0.out.later hB2)).mono ?_
  rintro e w3 ⟨rfl, hb3⟩
  clear hR'
  have hs3 := hb3
  replace c_e_0 := cell_later hs3 c_e_0
  replace c_e_1 := cell_later hs3 c_e_1
  replace c_e_2 := cell_later hs3 c_e_2
  replace c_e_3 := cell_later hs3 c_e_3
  replace c_e_4 := cell_later hs3 c_e_4
  replace c_e_5 := cell_later hs3 c_e_5
  replace c_e_6 := cell_later hs3 c_e_6
  replace c_e_7 := cell_later hs3 c_e_7
  replace c_e_8 := cell_later hs3 c_e_8
  replace c_g_0 := cell_later hs3 c_g_0
  replace c_g_1 := cell_later hs3 c_g_1
  clear z_e
  have z_e : w.heap.size < _ := World.block_lt_of_cell? _ _ c_e_0
  clear z_g
  have z_g : w.heap.size + 1 < _ := World.block_lt_of_cell? _ _ c_g_0
  have hB3 := below_two hB2 hs3
  clear hB2 hs3
  go_wp2
  go_ret
  exact ⟨rfl, hB3⟩

set_option maxRecDepth 100000 in
set_option maxHeartbeats 40000000 in
theorem upEach_nil (x : Ev) (vp vt vm : Value) (S H a : Int) (w : World) (h0 : EvR w vp vt vm x) (hR : Ready w) (hq : fewE x = true) (hn : ((x.ps.length : Int) == 0) = true):
    Calls Tryd.prog 8 #[evv x vp vt vm, iv S H, .int .u8 a] w fun ed w' => ed = .returned (.bool true) ∧ Below w.heap.size w w' := by
  have hgR := guardR
  have hgV := guardV
  have heR := eql_rt
  have hsR := eqR_self
  have hsP := eqP_self
  have hgP := guardP
  have heP := eql_pt
  have HQ := Lib.hid hq
  clear hq
  have HN := Lib.hid hn
  clear hn
  obtain ⟨k, ps, ts, b, d, n, e0, ms, str⟩ := x
  have HX0 := Lib.hid h0
  obtain ⟨Pps, Cps, e1, _⟩ := sl_shape h0.ps
  obtain ⟨Pts, Cts, e2, _⟩ := sl_shape h0.ts
  obtain ⟨Pms, Cms, e3, _⟩ := sl_shape h0.ms
  dsimp only at e1 e2 e3
  subst e1 e2 e3
  clear h0
  have hB0 : Below w.heap.size w w := Below.refl _ _
  go_enter Tryd.func8, Tryd.ntmps8
  go_wp2_with fail
  have hR' := hR.below ((hB0.alloc hB0.size (.cells #[.int .i64 k, .slice Pps ps.length Cps, .slice Pts ts.length Cts, .int .i64 b, .int .i64 d, .int .i64 n, .int .i64 e0, .slice Pms ms.length Cms, .string str] 28)).alloc (hB0.alloc hB0.size (.cells #[.int .i64 k, .slice Pps ps.length Cps, .slice Pts ts.length Cts, .int .i64 b, .int .i64 d, .int .i64 n, .int .i64 e0, .slice Pms ms.length Cms, .string str] 28)).size (.cells #[.int .i64 S, .int .i64 H] 38))
  refine (awake_any _ hR').mono ?_
  rintro e w1 ⟨rfl, hb1⟩
  clear hR'
  have hs1 : Below w.heap.size w w1 := Below.trans (by repeat (first | exact Below.refl _ _ | refine Below.alloc ?_ (by simp <;> omega) _)) (hb1.mono (by simp <;> omega))
  have c_e_0 : w1.cell? ⟨w.heap.size, 0, none⟩ = some (.int .i64 k) := (hb1.cell (by simp <;> omega)).trans (by go_simp)
  have c_e_1 : w1.cell? ⟨w.heap.size, 1, none⟩ = some (.slice Pps ps.length Cps) := (hb1.cell (by simp <;> omega)).trans (by go_simp)
  have c_e_2 : w1.cell? ⟨w.heap.size, 2, none⟩ = some (.slice Pts ts.length Cts) := (hb1.cell (by simp <;> omega)).trans (by go_simp)
  have c_e_3 : w1.cell? ⟨w.heap.size, 3, none⟩ = some (.int .i64 b) := (hb1.cell (by simp <;> omega)).trans (by go_simp)
  have c_e_4 : w1.cell? ⟨w.heap.size, 4, none⟩ = some (.int .i64 d) := (hb1.cell (by simp <;> omega)).trans (by go_simp)
  have c_e_5 : w1.cell? ⟨w.heap.size, 5, none⟩ = some (.int .i64 n) := (hb1.cell (by simp <;> omega)).trans (by go_simp)
  have c_e_6 : w1.cell? ⟨w.heap.size, 6, none⟩ = some (.int .i64 e0) := (hb1.cell (by simp <;> omega)).trans (by go_simp)
  have c_e_7 : w1.cell? ⟨w.heap.size, 7, none⟩ = some (.slice Pms ms.length Cms) := (hb1.cell (by simp <;> omega)).trans (by go_simp)
  have c_e_8 : w1.cell? ⟨w.heap.size, 8, none⟩ = some (.string str) := (hb1.cell (by simp <;> omega)).trans (by go_simp)
  have c_g_0 : w1.cell? ⟨w.heap.size + 1, 0, none⟩ = some (.int .i64 S) := (hb1.cell (by simp <;> omega)).trans (by go_simp)
  have c_g_1 : w1.cell? ⟨w.heap.size + 1, 1, none⟩ = some (.int .i64 H) := (hb1.cell (by simp <;> omega)).trans (by go_simp)
  have z_e : w.heap.size < _ := World.block_lt_of_cell? _ _ c_e_0
  have z_g : w.heap.size + 1 < _ := World.block_lt_of_cell? _ _ c_g_0
  have hB1 := below_two hB0 hs1
  clear hB0 hs1 hb1
  go_wp2_with fail
  have hs2 : Below w1.heap.size w1 w1 := by repeat (first | exact Below.refl _ _ | refine Below.alloc ?_ (by simp <;> omega) _)
  replace c_e_0 := cell_later hs2 c_e_0
  replace c_e_1 := cell_later hs2 c_e_1
  replace c_e_2 := cell_later hs2 c_e_2
  replace c_e_3 := cell_later hs2 c_e_3
  replace c_e_4 := cell_later hs2 c_e_4
  replace c_e_5 := cell_later hs2 c_e_5
  replace c_e_6 := cell_later hs2 c_e_6
  replace c_e_7 := cell_later hs2 c_e_7
  replace c_e_8 := cell_later hs2 c_e_8
  replace c_g_0 := cell_later hs2 c_g_0
  replace c_g_1 := cell_later hs2 c_g_1
  have hB2 := below_two hB1 hs2
  clear hB1 hs2
  have y2_e := z_e
  have y2_g := z_g
  generalize w1 = w2 at *
  clear z_e
  have z_e : w.heap.size < _ := World.block_lt_of_cell? _ _ c_e_0
  clear z_g
  have z_g : w.heap.size + 1 < _ := World.block_lt_of_cell? _ _ c_g_0
  have hn := HN.out
  try dsimp only at hn
  go_wp2_with fail
  have hR' := hR.below hB2
  refine (few_is HQ.out _ _ _ _ (HX0.out.later hB2)).mono ?_
  rintro e w3 ⟨rfl, hb3⟩
  clear hR'
  have hs3 := hb3
  replace c_e_0 := cell_later hs3 c_e_0
  replace c_e_1 := cell_later hs3 c_e_1
  replace c_e_2 := cell_later hs3 c_e_2
  replace c_e_3 := cell_later hs3 c_e_3
  replace c_e_4 := cell_later hs3 c_e_4
  replace c_e_5 := cell_later hs3 c_e_5
  replace c_e_6 := cell_later hs3 c_e_6
  replace c_e_7 := cell_later hs3 c_e_7
  replace c_e_8 := cell_later hs3 c_e_8
  replace c_g_0 := cell_later hs3 c_g_0
  replace c_g_1 := cell_later hs3 c_g_1
  clear z_e
  have z_e : w.heap.size < _ := World.block_lt_of_cell? _ _ c_e_0
  clear z_g
  have z_g : w.heap.size + 1 < _ := World.block_lt_of_cell? _ _ c_g_0
  have hB3 := below_two hB2 hs3
  clear hB2 hs3
  go_wp2
  go_ret
  exact ⟨rfl, hB3⟩

theorem upV_is {S H : Int} {p : P3} {v : Value} (h : upV (Evt.upP S H p) = v) (w : World) (hR : Ready w) : Calls Tryd.prog 30 #[pt p.1 p.2.1 p.2.2, iv S H] w fun ed w' => ed = .returned v ∧ Below w.heap.size w w' := by rw [← h]; exact up_is rfl w hR

set_option maxRecDepth 100000 in
set_option maxHeartbeats 40000000 in
theorem upEach_bad (x : Ev) (vp vt vm : Value) (S H a : Int) (K : Nat) (p0 p1 p2 q0 q1 q2 : Int) (xe er : Int) (w : World) (h0 : EvR w vp vt vm x) (hR : Ready w) (hq : fewE x = true) (hn : ((x.ps.length : Int) == 0) = false) (hk : a.tmod (x.ps.length : Int) = (K : Int)) (ha : 0 ≤ a ∧ a ≤ 255) (hp : x.ps[K]? = some (p0, p1, p2)) (hv : upV (Evt.upP S H (p0, p1, p2)) = pv q0 q1 q2 xe) (hu : Evt.upE S H x = (Evt.zero, er)) (hne : (er == 0) = false):
    Calls Tryd.prog 8 #[evv x vp vt vm, iv S H, .int .u8 a] w fun ed w' => ed = .returned (.bool true) ∧ Below w.heap.size w w' := by
  have hgR := guardR
  have hgV := guardV
  have heR := eql_rt
  have hsR := eqR_self
  have hsP := eqP_self
  have hgP := guardP
  have heP := eql_pt
  have HQ := Lib.hid hq
  clear hq
  have HN := Lib.hid hn
  clear hn
  have HK := Lib.hid hk
  clear hk
  have HA := Lib.hid ha
  clear ha
  have HP := Lib.hid hp
  clear hp
  have HV := Lib.hid hv
  clear hv
  have HU := Lib.hid hu
  clear hu
  have HNE := Lib.hid hne
  clear hne
  obtain ⟨k, ps, ts, b, d, n, e0, ms, str⟩ := x
  have HX0 := Lib.hid h0
  obtain ⟨Pps, Cps, e1, _⟩ := sl_shape h0.ps
  obtain ⟨Pts, Cts, e2, _⟩ := sl_shape h0.ts
  obtain ⟨Pms, Cms, e3, _⟩ := sl_shape h0.ms
  dsimp only at e1 e2 e3
  subst e1 e2 e3
  clear h0
  have hB0 : Below w.heap.size w w := Below.refl _ _
  go_enter Tryd.func8, Tryd.ntmps8
  go_wp2_with fail
  have hR' := hR.below ((hB0.alloc hB0.size (.cells #[.int .i64 k, .slice Pps ps.length Cps, .slice Pts ts.length Cts, .int .i64 b, .int .i64 d, .int .i64 n, .int .i64 e0, .slice Pms ms.length Cms, .string str] 28)).alloc (hB0.alloc hB0.size (.cells #[.int .i64 k, .slice Pps ps.length Cps, .slice Pts ts.length Cts, .int .i64 b, .int .i64 d, .int .i64 n, .int .i64 e0, .slice Pms ms.length Cms, .string str] 28)).size (.cells #[.int .i64 S, .int .i64 H] 38))
  refine (awake_any _ hR').mono ?_
  rintro e w1 ⟨rfl, hb1⟩
  clear hR'
  have hs1 : Below w.heap.size w w1 := Below.trans (by repeat (first | exact Below.refl _ _ | refine Below.alloc ?_ (by simp <;> omega) _)) (hb1.mono (by simp <;> omega))
  have c_e_0 : w1.cell? ⟨w.heap.size, 0, none⟩ = some (.int .i64 k) := (hb1.cell (by simp <;> omega)).trans (by go_simp)
  have c_e_1 : w1.cell? ⟨w.heap.size, 1, none⟩ = some (.slice Pps ps.length Cps) := (hb1.cell (by simp <;> omega)).trans (by go_simp)
  have c_e_2 : w1.cell? ⟨w.heap.size, 2, none⟩ = some (.slice Pts ts.length Cts) := (hb1.cell (by simp <;> omega)).trans (by go_simp)
  have c_e_3 : w1.cell? ⟨w.heap.size, 3, none⟩ = some (.int .i64 b) := (hb1.cell (by simp <;> omega)).trans (by go_simp)
  have c_e_4 : w1.cell? ⟨w.heap.size, 4, none⟩ = some (.int .i64 d) := (hb1.cell (by simp <;> omega)).trans (by go_simp)
  have c_e_5 : w1.cell? ⟨w.heap.size, 5, none⟩ = some (.int .i64 n) := (hb1.cell (by simp <;> omega)).trans (by go_simp)
  have c_e_6 : w1.cell? ⟨w.heap.size, 6, none⟩ = some (.int .i64 e0) := (hb1.cell (by simp <;> omega)).trans (by go_simp)
  have c_e_7 : w1.cell? ⟨w.heap.size, 7, none⟩ = some (.slice Pms ms.length Cms) := (hb1.cell (by simp <;> omega)).trans (by go_simp)
  have c_e_8 : w1.cell? ⟨w.heap.size, 8, none⟩ = some (.string str) := (hb1.cell (by simp <;> omega)).trans (by go_simp)
  have c_g_0 : w1.cell? ⟨w.heap.size + 1, 0, none⟩ = some (.int .i64 S) := (hb1.cell (by simp <;> omega)).trans (by go_simp)
  have c_g_1 : w1.cell? ⟨w.heap.size + 1, 1, none⟩ = some (.int .i64 H) := (hb1.cell (by simp <;> omega)).trans (by go_simp)
  have z_e : w.heap.size < _ := World.block_lt_of_cell? _ _ c_e_0
  have z_g : w.heap.size + 1 < _ := World.block_lt_of_cell? _ _ c_g_0
  have hB1 := below_two hB0 hs1
  clear hB0 hs1 hb1
  go_wp2_with fail
  have hs2 : Below w1.heap.size w1 w1 := by repeat (first | exact Below.refl _ _ | refine Below.alloc ?_ (by simp <;> omega) _)
  replace c_e_0 := cell_later hs2 c_e_0
  replace c_e_1 := cell_later hs2 c_e_1
  replace c_e_2 := cell_later hs2 c_e_2
  replace c_e_3 := cell_later hs2 c_e_3
  replace c_e_4 := cell_later hs2 c_e_4
  replace c_e_5 := cell_later hs2 c_e_5
  replace c_e_6 := cell_later hs2 c_e_6
  replace c_e_7 := cell_later hs2 c_e_7
  replace c_e_8 := cell_later hs2 c_e_8
  replace c_g_0 := cell_later hs2 c_g_0
  replace c_g_1 := cell_later hs2 c_g_1
  have hB2 := below_two hB1 hs2
  clear hB1 hs2
  have y2_e := z_e
  have y2_g := z_g
  generalize w1 = w2 at *
  clear z_e
  have z_e : w.heap.size < _ := World.block_lt_of_cell? _ _ c_e_0
  clear z_g
  have z_g : w.heap.size + 1 < _ := World.block_lt_of_cell? _ _ c_g_0
  go_wp2_with fail
  have hR' := hR.below hB2
  refine (few_is HQ.out _ _ _ _ (HX0.out.later hB2)).mono ?_
  rintro e w3 ⟨rfl, hb3⟩
  clear hR'
  have hs3 := hb3
  replace c_e_0 := cell_later hs3 c_e_0
  replace c_e_1 := cell_later hs3 c_e_1
  replace c_e_2 := cell_later hs3 c_e_2
  replace c_e_3 := cell_later hs3 c_e_3
  replace c_e_4 := cell_later hs3 c_e_4
  replace c_e_5 := cell_later hs3 c_e_5
  replace c_e_6 := cell_later hs3 c_e_6
  replace c_e_7 := cell_later hs3 c_e_7
  replace c_e_8 := cell_later hs3 c_e_8
  replace c_g_0 := cell_later hs3 c_g_0
  replace c_g_1 := cell_later hs3 c_g_1
  clear z_e
  have z_e : w.heap.size < _ := World.block_lt_of_cell? _ _ c_e_0
  clear z_g
  have z_g : w.heap.size + 1 < _ := World.block_lt_of_cell? _ _ c_g_0
  have hB3 := below_two hB2 hs3
  clear hB2 hs3
  obtain ⟨bq, oq, eq, hx0, hx1, hx2⟩ := pits_at (HX0.out.later hB3).ps HP.out
  subst eq
  dsimp only at hx0 hx1 hx2
  have hn := HN.out
  have hk := HK.out
  have ha0 := HA.out.1
  have ha1 := HA.out.2
  try dsimp only at hn hk
  have hK : K < ps.length := (List.getElem?_eq_some_iff.1 HP.out).1
  have hK' : (K : Int) < (ps.length : Int) := by omega
  go_wp2_with fail
  clear hn hk ha0 ha1
  have zx := World.block_lt_of_cell? _ _ hx0
  simp only at zx
  go_cut [9, 10] (fun p x wx => x = .int .i64 xe ∧ AtP q0 q1 q2 w3 p wx)
  case first =>
    have RA : Hid (∀ u, Below (w3.alloc (.cells #[.int .i64 0, .int .i64 0, .int .i64 0] 46)).drew.heap.size (w3.alloc (.cells #[.int .i64 0, .int .i64 0, .int .i64 0] 46)).drew u → u.cell? ⟨w3.heap.size, 0, none⟩ = some (.int .i64 0) ∧ u.cell? ⟨w3.heap.size, 1, none⟩ = some (.int .i64 0) ∧ u.cell? ⟨w3.heap.size, 2, none⟩ = some (.int .i64 0) ∧ u.frozen? ⟨w3.heap.size, 0, none⟩ = false ∧ u.frozen? ⟨w3.heap.size, 1, none⟩ = false ∧ u.frozen? ⟨w3.heap.size, 2, none⟩ = false ∧ Below w3.heap.size w3 u) := Lib.hid (fun u hq => by
      have e0 : (w3.alloc (.cells #[.int .i64 0, .int .i64 0, .int .i64 0] 46)).drew.cell? ⟨w3.heap.size, 0, none⟩ = some (.int .i64 0) := cell_drew (by go_simp)
      have e1 : (w3.alloc (.cells #[.int .i64 0, .int .i64 0, .int .i64 0] 46)).drew.cell? ⟨w3.heap.size, 1, none⟩ = some (.int .i64 0) := cell_drew (by go_simp)
      have e2 : (w3.alloc (.cells #[.int .i64 0, .int .i64 0, .int .i64 0] 46)).drew.cell? ⟨w3.heap.size, 2, none⟩ = some (.int .i64 0) := cell_drew (by go_simp)
      exact ⟨cell_later hq e0, cell_later hq e1, cell_later hq e2, frozen_later hq e0 (frozen_drew (by go_simp)), frozen_later hq e1 (frozen_drew (by go_simp)), frozen_later hq e2 (frozen_drew (by go_simp)), below_two (alloc_below (Below.refl _ _)).drew hq⟩)
    have RB : Hid (∀ u, Below w3.drew.heap.size w3.drew u → u.cell? ⟨bq, oq + K * 3, none⟩ = some (.int .i64 p0) ∧ u.cell? ⟨bq, oq + K * 3 + 1, none⟩ = some (.int .i64 p1) ∧ u.cell? ⟨bq, oq + K * 3 + 2, none⟩ = some (.int .i64 p2) ∧ u.cell? ⟨w.heap.size, 1, none⟩ = some (.slice (some ⟨bq, oq, none⟩) ps.length Cps) ∧ u.cell? ⟨w.heap.size + 1, 0, none⟩ = some (.int .i64 S) ∧ u.cell? ⟨w.heap.size + 1, 1, none⟩ = some (.int .i64 H) ∧ Below w3.heap.size w3 u) := Lib.hid (fun u hq => ⟨cell_later hq (cell_drew hx0), cell_later hq (cell_drew hx1), cell_later hq (cell_drew hx2), cell_later hq (cell_drew c_e_1), cell_later hq (cell_drew c_g_0), cell_later hq (cell_drew c_g_1), below_two (Below.refl _ _).drew hq⟩)
    have HR1 : Hid (Ready w3.drew) := Lib.hid (hR.below hB3.drew)
    have HR2 : Hid (Ready (w3.alloc (.cells #[.int .i64 0, .int .i64 0, .int .i64 0] 46)).drew) := Lib.hid (hR.below (alloc_below hB3).drew)
    clear hgR hgV heR hsR hsP hgP heP HQ HN HK HA HP HX0 hR hB3 HU HNE
    go_region_held3 (fun w' => w'.cell? ⟨bq, oq + K * 3, none⟩ = some (.int .i64 p0) ∧ w'.cell? ⟨bq, oq + K * 3 + 1, none⟩ = some (.int .i64 p1) ∧ w'.cell? ⟨bq, oq + K * 3 + 2, none⟩ = some (.int .i64 p2) ∧ w'.cell? ⟨w.heap.size, 1, none⟩ = some (.slice (some ⟨bq, oq, none⟩) ps.length Cps) ∧ w'.cell? ⟨w.heap.size + 1, 0, none⟩ = some (.int .i64 S) ∧ w'.cell? ⟨w.heap.size + 1, 1, none⟩ = some (.int .i64 H) ∧ Below w3.heap.size w3 w')
      (((try go_split_ands); refine ⟨?_, ?_, ?_, ?_, ?_, ?_, ?_⟩ <;> first | with_reducible assumption | (with_reducible refine cell_later hq ?_; with_reducible assumption) | (with_reducible refine below_two ?_ hq; with_reducible assumption) | (with_reducible refine alloc_cell ?_; with_reducible assumption) | (with_reducible refine alloc_below ?_; with_reducible assumption) | (with_reducible refine set_far ?_ (set_far ?_ (set_far ?_ ?_)); omega; omega; omega; with_reducible assumption) | (with_reducible refine put3_below ?_ ?_; with_reducible assumption; omega) | with_reducible exact cell_drew hx0 | with_reducible exact cell_drew hx1 | with_reducible exact cell_drew hx2 | with_reducible exact cell_drew c_e_1 | with_reducible exact cell_drew c_g_0 | with_reducible exact cell_drew c_g_1 | with_reducible exact Below.drew (Below.refl _ _) | with_reducible exact cell_drew (alloc_cell hx0) | with_reducible exact cell_drew (alloc_cell hx1) | with_reducible exact cell_drew (alloc_cell hx2) | with_reducible exact cell_drew (alloc_cell c_e_1) | with_reducible exact cell_drew (alloc_cell c_g_0) | with_reducible exact cell_drew (alloc_cell c_g_1) | with_reducible exact (alloc_below (Below.refl _ _)).drew))
      (first
        | (go_at_call 30; first
            | (with_reducible refine (upV_is (p := (p0, p1, p2)) HV.out w3.drew HR1.out).mono ?_; rintro ed u5 ⟨rfl, hq⟩; obtain ⟨n_0, n_1, n_2, n_3, n_4, n_5, hb5⟩ := RB.out _ hq)
            | (with_reducible refine (upV_is (p := (p0, p1, p2)) HV.out (w3.alloc (.cells #[.int .i64 0, .int .i64 0, .int .i64 0] 46)).drew HR2.out).mono ?_; rintro ed u5 ⟨rfl, hq⟩; obtain ⟨r_0, r_1, r_2, f_0, f_1, f_2, hb5⟩ := RA.out _ hq)))
    all_goals (first
      | (go_wp2_with fail; go_meet; case rel => exact ⟨rfl, _, rfl, (put3_of r_0 r_1 r_2).1, (put3_of r_0 r_1 r_2).2.1, (put3_of r_0 r_1 r_2).2.2, put3_below hb5 (by omega)⟩)
      | (go_wp2_with fail; go_meet; case rel => exact ⟨rfl, _, rfl, by go_simp, by go_simp, by go_simp, alloc_below hb5⟩))
  case rest =>
  obtain ⟨rfl, A1, rfl, c_p_0, c_p_1, c_p_2, hBx⟩ := hcut
  have HP2 := Lib.hid HP.out
  clear hx0 hx1 hx2 zx
  replace c_e_0 := cell_later hBx c_e_0
  replace c_e_1 := cell_later hBx c_e_1
  replace c_e_2 := cell_later hBx c_e_2
  replace c_e_3 := cell_later hBx c_e_3
  replace c_e_4 := cell_later hBx c_e_4
  replace c_e_5 := cell_later hBx c_e_5
  replace c_e_6 := cell_later hBx c_e_6
  replace c_e_7 := cell_later hBx c_e_7
  replace c_e_8 := cell_later hBx c_e_8
  replace c_g_0 := cell_later hBx c_g_0
  replace c_g_1 := cell_later hBx c_g_1
  have hB4 := below_two hB3 hBx
  clear hB3 hBx
  clear z_e
  have z_e : w.heap.size < _ := World.block_lt_of_cell? _ _ c_e_0
  clear z_g
  have z_g : w.heap.size + 1 < _ := World.block_lt_of_cell? _ _ c_g_0
  have z_p : A1 < _ := World.block_lt_of_cell? _ _ c_p_0
  have HNE' := HNE.out
  go_wp2_with fail
  have hR' := hR.below hB4
  refine (eup_is HU.out _ _ _ _ (HX0.out.later hB4) hR').mono ?_
  rintro e w5 ⟨vp, vt, vm, rfl, hev, hb5⟩
  clear hR'
  have hs5 := hb5
  replace c_e_0 := cell_later hs5 c_e_0
  replace c_e_1 := cell_later hs5 c_e_1
  replace c_e_2 := cell_later hs5 c_e_2
  replace c_e_3 := cell_later hs5 c_e_3
  replace c_e_4 := cell_later hs5 c_e_4
  replace c_e_5 := cell_later hs5 c_e_5
  replace c_e_6 := cell_later hs5 c_e_6
  replace c_e_7 := cell_later hs5 c_e_7
  replace c_e_8 := cell_later hs5 c_e_8
  replace c_g_0 := cell_later hs5 c_g_0
  replace c_g_1 := cell_later hs5 c_g_1
  replace c_p_0 := cell_later hs5 c_p_0
  replace c_p_1 := cell_later hs5 c_p_1
  replace c_p_2 := cell_later hs5 c_p_2
  clear z_e
  have z_e : w.heap.size < _ := World.block_lt_of_cell? _ _ c_e_0
  clear z_g
  have z_g : w.heap.size + 1 < _ := World.block_lt_of_cell? _ _ c_g_0
  clear z_p
  have z_p : A1 < _ := World.block_lt_of_cell? _ _ c_p_0
  have hB5 := below_two hB4 hs5
  clear hB4 hs5
  dsimp only at hev
  obtain ⟨pa, ca, e3, _⟩ := sl_shape hev.ps
  have e3 : vp = .slice pa 0 ca := e3
  obtain ⟨qa, da, e4, _⟩ := sl_shape hev.ts
  have e4 : vt = .slice qa 0 da := e4
  obtain ⟨ra, fa, e5, _⟩ := sl_shape hev.ms
  have e5 : vm = .slice ra 0 fa := e5
  subst e3 e4 e5
  clear hev
  go_wp2
  go_ret
  exact ⟨rfl, (hB5.alloc hB5.size (.cells #[.int .i64 Evt.zero.k, .slice pa 0 ca, .slice qa 0 da, .int .i64 Evt.zero.b, .int .i64 Evt.zero.d, .int .i64 Evt.zero.n, .int .i64 Evt.zero.e, .slice ra 0 fa, .string Evt.zero.s] 28))⟩

set_option maxRecDepth 100000 in
set_option maxHeartbeats 40000000 in
theorem upEach_ok (x : Ev) (vp vt vm : Value) (S H a : Int) (K : Nat) (p0 p1 p2 q0 q1 q2 : Int) (Z : Ev) (w : World) (h0 : EvR w vp vt vm x) (hR : Ready w) (hq : fewE x = true) (hn : ((x.ps.length : Int) == 0) = false) (hk : a.tmod (x.ps.length : Int) = (K : Int)) (ha : 0 ≤ a ∧ a ≤ 255) (hp : x.ps[K]? = some (p0, p1, p2)) (hv : upV (Evt.upP S H (p0, p1, p2)) = pv q0 q1 q2 0) (hu : Evt.upE S H x = (Z, 0)) (hzl : ((Z.ps.length : Int) == (x.ps.length : Int)) = true) (hzk : Z.ps[K]? = some (q0, q1, q2)):
    Calls Tryd.prog 8 #[evv x vp vt vm, iv S H, .int .u8 a] w fun ed w' => ed = .returned (.bool true) ∧ Below w.heap.size w w' := by
  have hgR := guardR
  have hgV := guardV
  have heR := eql_rt
  have hsR := eqR_self
  have hsP := eqP_self
  have hgP := guardP
  have heP := eql_pt
  have HQ := Lib.hid hq
  clear hq
  have HN := Lib.hid hn
  clear hn
  have HK := Lib.hid hk
  clear hk
  have HA := Lib.hid ha
  clear ha
  have HP := Lib.hid hp
  clear hp
  have HV := Lib.hid hv
  clear hv
  have HU := Lib.hid hu
  clear hu
  have HZL := Lib.hid hzl
  clear hzl
  have HZK := Lib.hid hzk
  clear hzk
  obtain ⟨k, ps, ts, b, d, n, e0, ms, str⟩ := x
  have HX0 := Lib.hid h0
  obtain ⟨Pps, Cps, e1, _⟩ := sl_shape h0.ps
  obtain ⟨Pts, Cts, e2, _⟩ := sl_shape h0.ts
  obtain ⟨Pms, Cms, e3, _⟩ := sl_shape h0.ms
  dsimp only at e1 e2 e3
  subst e1 e2 e3
  clear h0
  have hB0 : Below w.heap.size w w := Below.refl _ _
  go_enter Tryd.func8, Tryd.ntmps8
  go_wp2_with fail
  have hR' := hR.below ((hB0.alloc hB0.size (.cells #[.int .i64 k, .slice Pps ps.length Cps, .slice Pts ts.length Cts, .int .i64 b, .int .i64 d, .int .i64 n, .int .i64 e0, .slice Pms ms.length Cms, .string str] 28)).alloc (hB0.alloc hB0.size (.cells #[.int .i64 k, .slice Pps ps.length Cps, .slice Pts ts.length Cts, .int .i64 b, .int .i64 d, .int .i64 n, .int .i64 e0, .slice Pms ms.length Cms, .string str] 28)).size (.cells #[.int .i64 S, .int .i64 H] 38))
  refine (awake_any _ hR').mono ?_
  rintro e w1 ⟨rfl, hb1⟩
  clear hR'
  have hs1 : Below w.heap.size w w1 := Below.trans (by repeat (first | exact Below.refl _ _ | refine Below.alloc ?_ (by simp <;> omega) _)) (hb1.mono (by simp <;> omega))
  have c_e_0 : w1.cell? ⟨w.heap.size, 0, none⟩ = some (.int .i64 k) := (hb1.cell (by simp <;> omega)).trans (by go_simp)
  have c_e_1 : w1.cell? ⟨w.heap.size, 1, none⟩ = some (.slice Pps ps.length Cps) := (hb1.cell (by simp <;> omega)).trans (by go_simp)
  have c_e_2 : w1.cell? ⟨w.heap.size, 2, none⟩ = some (.slice Pts ts.length Cts) := (hb1.cell (by simp <;> omega)).trans (by go_simp)
  have c_e_3 : w1.cell? ⟨w.heap.size, 3, none⟩ = some (.int .i64 b) := (hb1.cell (by simp <;> omega)).trans (by go_simp)
  have c_e_4 : w1.cell? ⟨w.heap.size, 4, none⟩ = some (.int .i64 d) := (hb1.cell (by simp <;> omega)).trans (by go_simp)
  have c_e_5 : w1.cell? ⟨w.heap.size, 5, none⟩ = some (.int .i64 n) := (hb1.cell (by simp <;> omega)).trans (by go_simp)
  have c_e_6 : w1.cell? ⟨w.heap.size, 6, none⟩ = some (.int .i64 e0) := (hb1.cell (by simp <;> omega)).trans (by go_simp)
  have c_e_7 : w1.cell? ⟨w.heap.size, 7, none⟩ = some (.slice Pms ms.length Cms) := (hb1.cell (by simp <;> omega)).trans (by go_simp)
  have c_e_8 : w1.cell? ⟨w.heap.size, 8, none⟩ = some (.string str) := (hb1.cell (by simp <;> omega)).trans (by go_simp)
  have c_g_0 : w1.cell? ⟨w.heap.size + 1, 0, none⟩ = some (.int .i64 S) := (hb1.cell (by simp <;> omega)).trans (by go_simp)
  have c_g_1 : w1.cell? ⟨w.heap.size + 1, 1, none⟩ = some (.int .i64 H) := (hb1.cell (by simp <;> omega)).trans (by go_simp)
  have z_e : w.heap.size < _ := World.block_lt_of_cell? _ _ c_e_0
  have z_g : w.heap.size + 1 < _ := World.block_lt_of_cell? _ _ c_g_0
  have hB1 := below_two hB0 hs1
  clear hB0 hs1 hb1
  go_wp2_with fail
  have hs2 : Below w1.heap.size w1 w1 := by repeat (first | exact Below.refl _ _ | refine Below.alloc ?_ (by simp <;> omega) _)
  replace c_e_0 := cell_later hs2 c_e_0
  replace c_e_1 := cell_later hs2 c_e_1
  replace c_e_2 := cell_later hs2 c_e_2
  replace c_e_3 := cell_later hs2 c_e_3
  replace c_e_4 := cell_later hs2 c_e_4
  replace c_e_5 := cell_later hs2 c_e_5
  replace c_e_6 := cell_later hs2 c_e_6
  replace c_e_7 := cell_later hs2 c_e_7
  replace c_e_8 := cell_later hs2 c_e_8
  replace c_g_0 := cell_later hs2 c_g_0
  replace c_g_1 := cell_later hs2 c_g_1
  have hB2 := below_two hB1 hs2
  clear hB1 hs2
  have y2_e := z_e
  have y2_g := z_g
  generalize w1 = w2 at *
  clear z_e
  have z_e : w.heap.size < _ := World.block_lt_of_cell? _ _ c_e_0
  clear z_g
  have z_g : w.heap.size + 1 < _ := World.block_lt_of_cell? _ _ c_g_0
  go_wp2_with fail
  have hR' := hR.below hB2
  refine (few_is HQ.out _ _ _ _ (HX0.out.later hB2)).mono ?_
  rintro e w3 ⟨rfl, hb3⟩
  clear hR'
  have hs3 := hb3
  replace c_e_0 := cell_later hs3 c_e_0
  replace c_e_1 := cell_later hs3 c_e_1
  replace c_e_2 := cell_later hs3 c_e_2
  replace c_e_3 := cell_later hs3 c_e_3
  replace c_e_4 := cell_later hs3 c_e_4
  replace c_e_5 := cell_later hs3 c_e_5
  replace c_e_6 := cell_later hs3 c_e_6
  replace c_e_7 := cell_later hs3 c_e_7
  replace c_e_8 := cell_later hs3 c_e_8
  replace c_g_0 := cell_later hs3 c_g_0
  replace c_g_1 := cell_later hs3 c_g_1
  clear z_e
  have z_e : w.heap.size < _ := World.block_lt_of_cell? _ _ c_e_0
  clear z_g
  have z_g : w.heap.size + 1 < _ := World.block_lt_of_cell? _ _ c_g_0
  have hB3 := below_two hB2 hs3
  clear hB2 hs3
  obtain ⟨bq, oq, eq, hx0, hx1, hx2⟩ := pits_at (HX0.out.later hB3).ps HP.out
  subst eq
  dsimp only at hx0 hx1 hx2
  have hn := HN.out
  have hk := HK.out
  have ha0 := HA.out.1
  have ha1 := HA.out.2
  try dsimp only at hn hk
  have hK : K < ps.length := (List.getElem?_eq_some_iff.1 HP.out).1
  have hK' : (K : Int) < (ps.length : Int) := by omega
  go_wp2_with fail
  clear hn hk ha0 ha1
  have zx := World.block_lt_of_cell? _ _ hx0
  simp only at zx
  go_cut [9, 10] (fun p x wx => x = .int .i64 0 ∧ AtP q0 q1 q2 w3 p wx)
  case first =>
    have RA : Hid (∀ u, Below (w3.alloc (.cells #[.int .i64 0, .int .i64 0, .int .i64 0] 46)).drew.heap.size (w3.alloc (.cells #[.int .i64 0, .int .i64 0, .int .i64 0] 46)).drew u → u.cell? ⟨w3.heap.size, 0, none⟩ = some (.int .i64 0) ∧ u.cell? ⟨w3.heap.size, 1, none⟩ = some (.int .i64 0) ∧ u.cell? ⟨w3.heap.size, 2, none⟩ = some (.int .i64 0) ∧ u.frozen? ⟨w3.heap.size, 0, none⟩ = false ∧ u.frozen? ⟨w3.heap.size, 1, none⟩ = false ∧ u.frozen? ⟨w3.heap.size, 2, none⟩ = false ∧ Below w3.heap.size w3 u) := Lib.hid (fun u hq => by
      have e0 : (w3.alloc (.cells #[.int .i64 0, .int .i64 0, .int .i64 0] 46)).drew.cell? ⟨w3.heap.size, 0, none⟩ = some (.int .i64 0) := cell_drew (by go_simp)
      have e1 : (w3.alloc (.cells #[.int .i64 0, .int .i64 0, .int .i64 0] 46)).drew.cell? ⟨w3.heap.size, 1, none⟩ = some (.int .i64 0) := cell_drew (by go_simp)
      have e2 : (w3.alloc (.cells #[.int .i64 0, .int .i64 0, .int .i64 0] 46)).drew.cell? ⟨w3.heap.size, 2, none⟩ = some (.int .i64 0) := cell_drew (by go_simp)
      exact ⟨cell_later hq e0, cell_later hq e1, cell_later hq e2, frozen_later hq e0 (frozen_drew (by go_simp)), frozen_later hq e1 (frozen_drew (by go_simp)), frozen_later hq e2 (frozen_drew (by go_simp)), below_two (alloc_below (Below.refl _ _)).drew hq⟩)
    have RB : Hid (∀ u, Below w3.drew.heap.size w3.drew u → u.cell? ⟨bq, oq + K * 3, none⟩ = some (.int .i64 p0) ∧ u.cell? ⟨bq, oq + K * 3 + 1, none⟩ = some (.int .i64 p1) ∧ u.cell? ⟨bq, oq + K * 3 + 2, none⟩ = some (.int .i64 p2) ∧ u.cell? ⟨w.heap.size, 1, none⟩ = some (.slice (some ⟨bq, oq, none⟩) ps.length Cps) ∧ u.cell? ⟨w.heap.size + 1, 0, none⟩ = some (.int .i64 S) ∧ u.cell? ⟨w.heap.size + 1, 1, none⟩ = some (.int .i64 H) ∧ Below w3.heap.size w3 u) := Lib.hid (fun u hq => ⟨cell_later hq (cell_drew hx0), cell_later hq (cell_drew hx1), cell_later hq (cell_drew hx2), cell_later hq (cell_drew c_e_1), cell_later hq (cell_drew c_g_0), cell_later hq (cell_drew c_g_1), below_two (Below.refl _ _).drew hq⟩)
    have HR1 : Hid (Ready w3.drew) := Lib.hid (hR.below hB3.drew)
    have HR2 : Hid (Ready (w3.alloc (.cells #[.int .i64 0, .int .i64 0, .int .i64 0] 46)).drew) := Lib.hid (hR.below (alloc_below hB3).drew)
    clear hgR hgV heR hsR hsP hgP heP HQ HN HK HA HP HX0 hR hB3 HU HZL HZK
    go_region_held3 (fun w' => w'.cell? ⟨bq, oq + K * 3, none⟩ = some (.int .i64 p0) ∧ w'.cell? ⟨bq, oq + K * 3 + 1, none⟩ = some (.int .i64 p1) ∧ w'.cell? ⟨bq, oq + K * 3 + 2, none⟩ = some (.int .i64 p2) ∧ w'.cell? ⟨w.heap.size, 1, none⟩ = some (.slice (some ⟨bq, oq, none⟩) ps.length Cps) ∧ w'.cell? ⟨w.heap.size + 1, 0, none⟩ = some (.int .i64 S) ∧ w'.cell? ⟨w.heap.size + 1, 1, none⟩ = some (.int .i64 H) ∧ Below w3.heap.size w3 w')
      (((try go_split_ands); refine ⟨?_, ?_, ?_, ?_, ?_, ?_, ?_⟩ <;> first | with_reducible assumption | (with_reducible refine cell_later hq ?_; with_reducible assumption) | (with_reducible refine below_two ?_ hq; with_reducible assumption) | (with_reducible refine alloc_cell ?_; with_reducible assumption) | (with_reducible refine alloc_below ?_; with_reducible assumption) | (with_reducible refine set_far ?_ (set_far ?_ (set_far ?_ ?_)); omega; omega; omega; with_reducible assumption) | (with_reducible refine put3_below ?_ ?_; with_reducible assumption; omega) | with_reducible exact cell_drew hx0 | with_reducible exact cell_drew hx1 | with_reducible exact cell_drew hx2 | with_reducible exact cell_drew c_e_1 | with_reducible exact cell_drew c_g_0 | with_reducible exact cell_drew c_g_1 | with_reducible exact Below.drew (Below.refl _ _) | with_reducible exact cell_drew (alloc_cell hx0) | with_reducible exact cell_drew (alloc_cell hx1) | with_reducible exact cell_drew (alloc_cell hx2) | with_reducible exact cell_drew (alloc_cell c_e_1) | with_reducible exact cell_drew (alloc_cell c_g_0) | with_reducible exact cell_drew (alloc_cell c_g_1) | with_reducible exact (alloc_below (Below.refl _ _)).drew))
      (first
        | (go_at_call 30; first
            | (with_reducible refine (upV_is (p := (p0, p1, p2)) HV.out w3.drew HR1.out).mono ?_; rintro ed u5 ⟨rfl, hq⟩; obtain ⟨n_0, n_1, n_2, n_3, n_4, n_5, hb5⟩ := RB.out _ hq)
            | (with_reducible refine (upV_is (p := (p0, p1, p2)) HV.out (w3.alloc (.cells #[.int .i64 0, .int .i64 0, .int .i64 0] 46)).drew HR2.out).mono ?_; rintro ed u5 ⟨rfl, hq⟩; obtain ⟨r_0, r_1, r_2, f_0, f_1, f_2, hb5⟩ := RA.out _ hq)))
    all_goals (first
      | (go_wp2_with fail; go_meet; case rel => exact ⟨rfl, _, rfl, (put3_of r_0 r_1 r_2).1, (put3_of r_0 r_1 r_2).2.1, (put3_of r_0 r_1 r_2).2.2, put3_below hb5 (by omega)⟩)
      | (go_wp2_with fail; go_meet; case rel => exact ⟨rfl, _, rfl, by go_simp, by go_simp, by go_simp, alloc_below hb5⟩))
  case rest =>
  obtain ⟨rfl, A1, rfl, c_p_0, c_p_1, c_p_2, hBx⟩ := hcut
  have HP2 := Lib.hid HP.out
  clear hx0 hx1 hx2 zx
  replace c_e_0 := cell_later hBx c_e_0
  replace c_e_1 := cell_later hBx c_e_1
  replace c_e_2 := cell_later hBx c_e_2
  replace c_e_3 := cell_later hBx c_e_3
  replace c_e_4 := cell_later hBx c_e_4
  replace c_e_5 := cell_later hBx c_e_5
  replace c_e_6 := cell_later hBx c_e_6
  replace c_e_7 := cell_later hBx c_e_7
  replace c_e_8 := cell_later hBx c_e_8
  replace c_g_0 := cell_later hBx c_g_0
  replace c_g_1 := cell_later hBx c_g_1
  have hB4 := below_two hB3 hBx
  clear hB3 hBx
  clear z_e
  have z_e : w.heap.size < _ := World.block_lt_of_cell? _ _ c_e_0
  clear z_g
  have z_g : w.heap.size + 1 < _ := World.block_lt_of_cell? _ _ c_g_0
  have z_p : A1 < _ := World.block_lt_of_cell? _ _ c_p_0
  go_wp2_with fail
  have hR' := hR.below hB4
  refine (eup_is HU.out _ _ _ _ (HX0.out.later hB4) hR').mono ?_
  rintro e w5 ⟨vp, vt, vm, rfl, hev, hb5⟩
  clear hR'
  have hs5 := hb5
  replace c_e_0 := cell_later hs5 c_e_0
  replace c_e_1 := cell_later hs5 c_e_1
  replace c_e_2 := cell_later hs5 c_e_2
  replace c_e_3 := cell_later hs5 c_e_3
  replace c_e_4 := cell_later hs5 c_e_4
  replace c_e_5 := cell_later hs5 c_e_5
  replace c_e_6 := cell_later hs5 c_e_6
  replace c_e_7 := cell_later hs5 c_e_7
  replace c_e_8 := cell_later hs5 c_e_8
  replace c_g_0 := cell_later hs5 c_g_0
  replace c_g_1 := cell_later hs5 c_g_1
  replace c_p_0 := cell_later hs5 c_p_0
  replace c_p_1 := cell_later hs5 c_p_1
  replace c_p_2 := cell_later hs5 c_p_2
  clear z_e
  have z_e : w.heap.size < _ := World.block_lt_of_cell? _ _ c_e_0
  clear z_g
  have z_g : w.heap.size + 1 < _ := World.block_lt_of_cell? _ _ c_g_0
  clear z_p
  have z_p : A1 < _ := World.block_lt_of_cell? _ _ c_p_0
  have hB5 := below_two hB4 hs5
  clear hB4 hs5
  dsimp only at hev
  obtain ⟨pa, ca, e3, _⟩ := sl_shape hev.ps
  obtain ⟨qa, da, e4, _⟩ := sl_shape hev.ts
  obtain ⟨ra, fa, e5, _⟩ := sl_shape hev.ms
  subst e3 e4 e5
  have HVa := Lib.hid hev
  have SVa : Hid (Since w5 w5) := Lib.hid (Since.refl _)
  clear hev
  obtain ⟨bz, oz, ez, c_zz_0, c_zz_1, c_zz_2⟩ := pits_at HVa.out.ps HZK.out
  subst ez
  dsimp only at c_zz_0 c_zz_1 c_zz_2
  have hzl := HZL.out
  try dsimp only at hzl
  have hK2 : K < Z.ps.length := (List.getElem?_eq_some_iff.1 HZK.out).1
  have hK2' : (K : Int) < (Z.ps.length : Int) := by omega
  have z_zz : bz < _ := World.block_lt_of_cell? _ _ c_zz_0
  go_wp2_with fail
  have hs6 : Below w5.heap.size w5 (w5.alloc (.cells #[.int .i64 Z.k, .slice (some ⟨bz, oz, none⟩) Z.ps.length ca, .slice qa Z.ts.length da, .int .i64 Z.b, .int .i64 Z.d, .int .i64 Z.n, .int .i64 Z.e, .slice ra Z.ms.length fa, .string Z.s] 28)) := by repeat (first | exact Below.refl _ _ | refine Below.alloc ?_ (by simp <;> omega) _)
  replace SVa := Lib.hid (SVa.out.later hs6)
  replace c_e_0 := cell_later hs6 c_e_0
  replace c_e_1 := cell_later hs6 c_e_1
  replace c_e_2 := cell_later hs6 c_e_2
  replace c_e_3 := cell_later hs6 c_e_3
  replace c_e_4 := cell_later hs6 c_e_4
  replace c_e_5 := cell_later hs6 c_e_5
  replace c_e_6 := cell_later hs6 c_e_6
  replace c_e_7 := cell_later hs6 c_e_7
  replace c_e_8 := cell_later hs6 c_e_8
  replace c_g_0 := cell_later hs6 c_g_0
  replace c_g_1 := cell_later hs6 c_g_1
  replace c_p_0 := cell_later hs6 c_p_0
  replace c_p_1 := cell_later hs6 c_p_1
  replace c_p_2 := cell_later hs6 c_p_2
  replace c_zz_0 := cell_later hs6 c_zz_0
  replace c_zz_1 := cell_later hs6 c_zz_1
  replace c_zz_2 := cell_later hs6 c_zz_2
  have c_a_0 : (w5.alloc (.cells #[.int .i64 Z.k, .slice (some ⟨bz, oz, none⟩) Z.ps.length ca, .slice qa Z.ts.length da, .int .i64 Z.b, .int .i64 Z.d, .int .i64 Z.n, .int .i64 Z.e, .slice ra Z.ms.length fa, .string Z.s] 28)).cell? ⟨w5.heap.size, 0, none⟩ = some (.int .i64 Z.k) := by go_simp
  have c_a_1 : (w5.alloc (.cells #[.int .i64 Z.k, .slice (some ⟨bz, oz, none⟩) Z.ps.length ca, .slice qa Z.ts.length da, .int .i64 Z.b, .int .i64 Z.d, .int .i64 Z.n, .int .i64 Z.e, .slice ra Z.ms.length fa, .string Z.s] 28)).cell? ⟨w5.heap.size, 1, none⟩ = some (.slice (some ⟨bz, oz, none⟩) Z.ps.length ca) := by go_simp
  have c_a_2 : (w5.alloc (.cells #[.int .i64 Z.k, .slice (some ⟨bz, oz, none⟩) Z.ps.length ca, .slice qa Z.ts.length da, .int .i64 Z.b, .int .i64 Z.d, .int .i64 Z.n, .int .i64 Z.e, .slice ra Z.ms.length fa, .string Z.s] 28)).cell? ⟨w5.heap.size, 2, none⟩ = some (.slice qa Z.ts.length da) := by go_simp
  have c_a_3 : (w5.alloc (.cells #[.int .i64 Z.k, .slice (some ⟨bz, oz, none⟩) Z.ps.length ca, .slice qa Z.ts.length da, .int .i64 Z.b, .int .i64 Z.d, .int .i64 Z.n, .int .i64 Z.e, .slice ra Z.ms.length fa, .string Z.s] 28)).cell? ⟨w5.heap.size, 3, none⟩ = some (.int .i64 Z.b) := by go_simp
  have c_a_4 : (w5.alloc (.cells #[.int .i64 Z.k, .slice (some ⟨bz, oz, none⟩) Z.ps.length ca, .slice qa Z.ts.length da, .int .i64 Z.b, .int .i64 Z.d, .int .i64 Z.n, .int .i64 Z.e, .slice ra Z.ms.length fa, .string Z.s] 28)).cell? ⟨w5.heap.size, 4, none⟩ = some (.int .i64 Z.d) := by go_simp
  have c_a_5 : (w5.alloc (.cells #[.int .i64 Z.k, .slice (some ⟨bz, oz, none⟩) Z.ps.length ca, .slice qa Z.ts.length da, .int .i64 Z.b, .int .i64 Z.d, .int .i64 Z.n, .int .i64 Z.e, .slice ra Z.ms.length fa, .string Z.s] 28)).cell? ⟨w5.heap.size, 5, none⟩ = some (.int .i64 Z.n) := by go_simp
  have c_a_6 : (w5.alloc (.cells #[.int .i64 Z.k, .slice (some ⟨bz, oz, none⟩) Z.ps.length ca, .slice qa Z.ts.length da, .int .i64 Z.b, .int .i64 Z.d, .int .i64 Z.n, .int .i64 Z.e, .slice ra Z.ms.length fa, .string Z.s] 28)).cell? ⟨w5.heap.size, 6, none⟩ = some (.int .i64 Z.e) := by go_simp
  have c_a_7 : (w5.alloc (.cells #[.int .i64 Z.k, .slice (some ⟨bz, oz, none⟩) Z.ps.length ca, .slice qa Z.ts.length da, .int .i64 Z.b, .int .i64 Z.d, .int .i64 Z.n, .int .i64 Z.e, .slice ra Z.ms.length fa, .string Z.s] 28)).cell? ⟨w5.heap.size, 7, none⟩ = some (.slice ra Z.ms.length fa) := by go_simp
  have c_a_8 : (w5.alloc (.cells #[.int .i64 Z.k, .slice (some ⟨bz, oz, none⟩) Z.ps.length ca, .slice qa Z.ts.length da, .int .i64 Z.b, .int .i64 Z.d, .int .i64 Z.n, .int .i64 Z.e, .slice ra Z.ms.length fa, .string Z.s] 28)).cell? ⟨w5.heap.size, 8, none⟩ = some (.string Z.s) := by go_simp
  have hB6 := below_two hB5 hs6
  clear hB5 hs6
  have y6_e := z_e
  have y6_g := z_g
  have y6_p := z_p
  have y6_zz := z_zz
  generalize (w5.alloc (.cells #[.int .i64 Z.k, .slice (some ⟨bz, oz, none⟩) Z.ps.length ca, .slice qa Z.ts.length da, .int .i64 Z.b, .int .i64 Z.d, .int .i64 Z.n, .int .i64 Z.e, .slice ra Z.ms.length fa, .string Z.s] 28)) = w6 at *
  have z_a : w5.heap.size < _ := World.block_lt_of_cell? _ _ c_a_0
  clear z_e
  have z_e : w.heap.size < _ := World.block_lt_of_cell? _ _ c_e_0
  clear z_g
  have z_g : w.heap.size + 1 < _ := World.block_lt_of_cell? _ _ c_g_0
  clear z_p
  have z_p : A1 < _ := World.block_lt_of_cell? _ _ c_p_0
  clear z_zz
  have z_zz : bz < _ := World.block_lt_of_cell? _ _ c_zz_0
  have QB : Hid (∀ dd os, Below w.heap.size w (Go.Sort.grow (redrawn w6 dd) os)) := Lib.hid (fun dd os => below_two hB6 (below_regrown w6 dd os))
  have g_c_e_0 := fun dd os => cell_regrown c_e_0 dd os
  have g_c_e_1 := fun dd os => cell_regrown c_e_1 dd os
  have g_c_e_2 := fun dd os => cell_regrown c_e_2 dd os
  have g_c_e_3 := fun dd os => cell_regrown c_e_3 dd os
  have g_c_e_4 := fun dd os => cell_regrown c_e_4 dd os
  have g_c_e_5 := fun dd os => cell_regrown c_e_5 dd os
  have g_c_e_6 := fun dd os => cell_regrown c_e_6 dd os
  have g_c_e_7 := fun dd os => cell_regrown c_e_7 dd os
  have g_c_e_8 := fun dd os => cell_regrown c_e_8 dd os
  have g_c_g_0 := fun dd os => cell_regrown c_g_0 dd os
  have g_c_g_1 := fun dd os => cell_regrown c_g_1 dd os
  have g_c_p_0 := fun dd os => cell_regrown c_p_0 dd os
  have g_c_p_1 := fun dd os => cell_regrown c_p_1 dd os
  have g_c_p_2 := fun dd os => cell_regrown c_p_2 dd os
  have g_c_zz_0 := fun dd os => cell_regrown c_zz_0 dd os
  have g_c_zz_1 := fun dd os => cell_regrown c_zz_1 dd os
  have g_c_zz_2 := fun dd os => cell_regrown c_zz_2 dd os
  have g_c_a_0 := fun dd os => cell_regrown c_a_0 dd os
  have g_c_a_1 := fun dd os => cell_regrown c_a_1 dd os
  have g_c_a_2 := fun dd os => cell_regrown c_a_2 dd os
  have g_c_a_3 := fun dd os => cell_regrown c_a_3 dd os
  have g_c_a_4 := fun dd os => cell_regrown c_a_4 dd os
  have g_c_a_5 := fun dd os => cell_regrown c_a_5 dd os
  have g_c_a_6 := fun dd os => cell_regrown c_a_6 dd os
  have g_c_a_7 := fun dd os => cell_regrown c_a_7 dd os
  have g_c_a_8 := fun dd os => cell_regrown c_a_8 dd os
  refine wp_region_quiet_below (by kernel_rfl) (by kernel_rfl) ?_
  repeat (go_big_quiet_step (first | fail))
  refine wpQuiet_nil ?_
  intro _ hw'
  obtain ⟨⟨dq, osq⟩, hw''⟩ := hw'
  subst hw''
  replace SVa := Lib.hid (SVa.out.later (below_regrown w6 dq osq))
  replace c_e_0 := g_c_e_0 dq osq
  clear g_c_e_0
  replace c_e_1 := g_c_e_1 dq osq
  clear g_c_e_1
  replace c_e_2 := g_c_e_2 dq osq
  clear g_c_e_2
  replace c_e_3 := g_c_e_3 dq osq
  clear g_c_e_3
  replace c_e_4 := g_c_e_4 dq osq
  clear g_c_e_4
  replace c_e_5 := g_c_e_5 dq osq
  clear g_c_e_5
  replace c_e_6 := g_c_e_6 dq osq
  clear g_c_e_6
  replace c_e_7 := g_c_e_7 dq osq
  clear g_c_e_7
  replace c_e_8 := g_c_e_8 dq osq
  clear g_c_e_8
  replace c_g_0 := g_c_g_0 dq osq
  clear g_c_g_0
  replace c_g_1 := g_c_g_1 dq osq
  clear g_c_g_1
  replace c_p_0 := g_c_p_0 dq osq
  clear g_c_p_0
  replace c_p_1 := g_c_p_1 dq osq
  clear g_c_p_1
  replace c_p_2 := g_c_p_2 dq osq
  clear g_c_p_2
  replace c_zz_0 := g_c_zz_0 dq osq
  clear g_c_zz_0
  replace c_zz_1 := g_c_zz_1 dq osq
  clear g_c_zz_1
  replace c_zz_2 := g_c_zz_2 dq osq
  clear g_c_zz_2
  replace c_a_0 := g_c_a_0 dq osq
  clear g_c_a_0
  replace c_a_1 := g_c_a_1 dq osq
  clear g_c_a_1
  replace c_a_2 := g_c_a_2 dq osq
  clear g_c_a_2
  replace c_a_3 := g_c_a_3 dq osq
  clear g_c_a_3
  replace c_a_4 := g_c_a_4 dq osq
  clear g_c_a_4
  replace c_a_5 := g_c_a_5 dq osq
  clear g_c_a_5
  replace c_a_6 := g_c_a_6 dq osq
  clear g_c_a_6
  replace c_a_7 := g_c_a_7 dq osq
  clear g_c_a_7
  replace c_a_8 := g_c_a_8 dq osq
  clear g_c_a_8
  have hB7 := QB.out dq osq
  clear QB hB6 z_a z_e z_g z_p z_zz
  generalize Go.Sort.grow (redrawn w6 dq) osq = w7 at *
  have z_a : w5.heap.size < _ := World.block_lt_of_cell? _ _ c_a_0
  have z_e : w.heap.size < _ := World.block_lt_of_cell? _ _ c_e_0
  have z_g : w.heap.size + 1 < _ := World.block_lt_of_cell? _ _ c_g_0
  have z_p : A1 < _ := World.block_lt_of_cell? _ _ c_p_0
  have z_zz : bz < _ := World.block_lt_of_cell? _ _ c_zz_0
  go_wp2
  go_ret
  exact ⟨rfl, hB7⟩

theorem upEach_any (x : Ev) (vp vt vm : Value) (S H a : Int) (w : World) (h : EvR w vp vt vm x) (hR : Ready w) (ha : 0 ≤ a ∧ a ≤ 255) : Calls Tryd.prog 8 #[evv x vp vt vm, iv S H, .int .u8 a] w fun ed w' => ed = .returned (.bool true) ∧ Below w.heap.size w w' := by
  cases hq : fewE x
  · exact upEach_few x vp vt vm S H a w h hR hq
  by_cases hn : x.ps.length = 0
  · exact upEach_nil x vp vt vm S H a w h hR hq (by simp [hn])
  have hn' : ((x.ps.length : Int) == 0) = false := by simpa using hn
  obtain ⟨n, rfl⟩ : ∃ n : Nat, a = n := ⟨a.toNat, by omega⟩
  have hk : ((n : Int)).tmod (x.ps.length : Int) = ((n % x.ps.length : Nat) : Int) := by
    rw [Int.tmod_eq_emod_of_nonneg (by omega)]; rfl
  have hlt : n % x.ps.length < x.ps.length := Nat.mod_lt _ (by omega)
  obtain ⟨p, hp⟩ : ∃ p, x.ps[n % x.ps.length]? = some p := ⟨_, List.getElem?_eq_getElem hlt⟩
  obtain ⟨p0, p1, p2⟩ := p
  by_cases h0 : (Evt.upE S H x).2 = 0
  · obtain ⟨hx, m, hm, he, _⟩ := Evt.upE_ok h0
    obtain ⟨q, hq1, hq2⟩ := Evt.lift_get hm _ _ hp
    obtain ⟨q0, q1, q2⟩ := q
    exact upEach_ok x vp vt vm S H n (n % x.ps.length) p0 p1 p2 q0 q1 q2 { x with ps := m } w h hR hq hn' hk ha hp (by rw [hq2]; rfl) he (by have e1 := Evt.lift_length S H _ _ hm; simp [e1]) hq1
  · have hz := Evt.upE_bad h0
    obtain ⟨q0, q1, q2, xe, hv⟩ : ∃ q0 q1 q2 xe, upV (Evt.upP S H (p0, p1, p2)) = pv q0 q1 q2 xe := by
      cases Evt.upP S H (p0, p1, p2) with
      | none => exact ⟨0, 0, 0, 20, rfl⟩
      | some q => obtain ⟨a, b, c⟩ := q; exact ⟨a, b, c, 0, rfl⟩
    exact upEach_bad x vp vt vm S H n (n % x.ps.length) p0 p1 p2 q0 q1 q2 xe (Evt.upE S H x).2 w h hR hq hn' hk ha hp hv (by rw [← hz]) (beq_eq_false_iff_ne.2 h0)
end Go.Proofs.YtoiankbopjaamaaDoor
