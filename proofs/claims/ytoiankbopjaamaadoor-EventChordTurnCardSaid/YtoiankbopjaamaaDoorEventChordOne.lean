/-
  EventChordOne answers true: the law's walk.
-/
import Derived.Test.YtoiankbopjaamaaDoorEvR
import Derived.Test.YtoiankbopjaamaaDoorEvSum
namespace Go.Proofs.YtoiankbopjaamaaDoor
open Go.RowKit
open Evt (P3 Ev)
theorem evs_new2 {w : World} {B : Nat} {ys : List EM} (hB : B = w.heap.size) (hl : ys.length ≤ 140737488355328) (h : ∀ y ∈ ys, EvR w y.2.1 y.2.2.1 y.2.2.2 y.1) : Evs (w.alloc (.cells (ys.flatMap encE).toArray 28)) (.slice (some ⟨B, 0, none⟩) ys.length ys.length) ys := by
  subst hB; exact evs_new hl h

set_option maxRecDepth 100000 in
set_option maxHeartbeats 40000000 in
theorem chordOne_few (x : Ev) (vp vt vm : Value) (w : World) (h : EvR w vp vt vm x) (hR : Ready w) (hq : fewE x = false) :
    Calls Tryd.prog 9 #[evv x vp vt vm] w fun ed w' => ed = .returned (.bool true) ∧ Below w.heap.size w w' := by
  obtain ⟨k, ps, ts, b, d, n, e0, ms, str⟩ := x
  obtain ⟨hps, hts, hms, hsz⟩ := h
  dsimp only at hps hts hms hsz hq ⊢
  have Hps := Lib.hid hps
  obtain ⟨pps, cps, rfl, lps⟩ := sl_shape hps
  have Hts := Lib.hid hts
  obtain ⟨pts, cts, rfl, lts⟩ := sl_shape hts
  have Hms := Lib.hid hms
  obtain ⟨pms, cms, rfl, lms⟩ := sl_shape hms
  clear hps hts hms
  have hB0 : Below w.heap.size w w := Below.refl _ _
  go_enter Tryd.func9, Tryd.ntmps9
  go_wp2_with fail
  have hR' := hR.below (hB0.alloc hB0.size (.cells #[.int .i64 k, .slice pps ps.length cps, .slice pts ts.length cts, .int .i64 b, .int .i64 d, .int .i64 n, .int .i64 e0, .slice pms ms.length cms, .string str] 28))
  refine (awake_any _ hR').mono ?_
  rintro e w1 ⟨rfl, hb1⟩
  clear hR'
  have hs1 : Below w.heap.size w w1 := Below.trans (by repeat (first | exact Below.refl _ _ | refine Below.alloc ?_ (by simp <;> omega) _)) (hb1.mono (by simp <;> omega))
  replace Hps := Lib.hid (Hps.out.later hs1)
  replace Hts := Lib.hid (Hts.out.later hs1)
  replace Hms := Lib.hid (Hms.out.later hs1)
  have c_e_0 : w1.cell? ⟨w.heap.size, 0, none⟩ = some (.int .i64 k) := (hb1.cell (by simp <;> omega)).trans (by go_simp)
  have c_e_1 : w1.cell? ⟨w.heap.size, 1, none⟩ = some (.slice pps ps.length cps) := (hb1.cell (by simp <;> omega)).trans (by go_simp)
  have c_e_2 : w1.cell? ⟨w.heap.size, 2, none⟩ = some (.slice pts ts.length cts) := (hb1.cell (by simp <;> omega)).trans (by go_simp)
  have c_e_3 : w1.cell? ⟨w.heap.size, 3, none⟩ = some (.int .i64 b) := (hb1.cell (by simp <;> omega)).trans (by go_simp)
  have c_e_4 : w1.cell? ⟨w.heap.size, 4, none⟩ = some (.int .i64 d) := (hb1.cell (by simp <;> omega)).trans (by go_simp)
  have c_e_5 : w1.cell? ⟨w.heap.size, 5, none⟩ = some (.int .i64 n) := (hb1.cell (by simp <;> omega)).trans (by go_simp)
  have c_e_6 : w1.cell? ⟨w.heap.size, 6, none⟩ = some (.int .i64 e0) := (hb1.cell (by simp <;> omega)).trans (by go_simp)
  have c_e_7 : w1.cell? ⟨w.heap.size, 7, none⟩ = some (.slice pms ms.length cms) := (hb1.cell (by simp <;> omega)).trans (by go_simp)
  have c_e_8 : w1.cell? ⟨w.heap.size, 8, none⟩ = some (.string str) := (hb1.cell (by simp <;> omega)).trans (by go_simp)
  have z_e := World.block_lt_of_cell? _ _ c_e_0
  have hB1 := below_two hB0 hs1
  clear hB0 hs1 hb1
  go_wp2_with fail
  have hs2 : Below w1.heap.size w1 w1 := by repeat (first | exact Below.refl _ _ | refine Below.alloc ?_ (by simp <;> omega) _)
  replace Hps := Lib.hid (Hps.out.later hs2)
  replace Hts := Lib.hid (Hts.out.later hs2)
  replace Hms := Lib.hid (Hms.out.later hs2)
  replace c_e_0 := cell_later hs2 c_e_0
  replace c_e_1 := cell_later hs2 c_e_1
  replace c_e_2 := cell_later hs2 c_e_2
  replace c_e_3 := cell_later hs2 c_e_3
  replace c_e_4 := cell_later hs2 c_e_4
  replace c_e_5 := cell_later hs2 c_e_5
  replace c_e_6 := cell_later hs2 c_e_6
  replace c_e_7 := cell_later hs2 c_e_7
  replace c_e_8 := cell_later hs2 c_e_8
  have hB2 := below_two hB1 hs2
  clear hB1 hs2
  have y2_e := z_e
  generalize w1 = w2 at *
  clear z_e
  have z_e := World.block_lt_of_cell? _ _ c_e_0
  have HQ := Lib.hid hq
  clear hq
  go_wp2_with fail
  have hR' := hR.below hB2
  refine (few_is HQ.out _ _ _ _ ⟨Hps.out.later (by repeat (first | exact Below.refl _ _ | refine Below.alloc ?_ (by simp <;> omega) _)), Hts.out.later (by repeat (first | exact Below.refl _ _ | refine Below.alloc ?_ (by simp <;> omega) _)), Hms.out.later (by repeat (first | exact Below.refl _ _ | refine Below.alloc ?_ (by simp <;> omega) _)), hsz⟩).mono ?_
  rintro e w3 ⟨rfl, hb3⟩
  clear hR'
  have hs3 := hb3
  replace Hps := Lib.hid (Hps.out.later hs3)
  replace Hts := Lib.hid (Hts.out.later hs3)
  replace Hms := Lib.hid (Hms.out.later hs3)
  replace c_e_0 := cell_later hs3 c_e_0
  replace c_e_1 := cell_later hs3 c_e_1
  replace c_e_2 := cell_later hs3 c_e_2
  replace c_e_3 := cell_later hs3 c_e_3
  replace c_e_4 := cell_later hs3 c_e_4
  replace c_e_5 := cell_later hs3 c_e_5
  replace c_e_6 := cell_later hs3 c_e_6
  replace c_e_7 := cell_later hs3 c_e_7
  replace c_e_8 := cell_later hs3 c_e_8
  clear z_e
  have z_e := World.block_lt_of_cell? _ _ c_e_0
  have hB3 := below_two hB2 hs3
  clear hB2 hs3
  go_wp2
  go_ret
  exact ⟨rfl, hB3⟩

set_option maxRecDepth 100000 in
set_option maxHeartbeats 40000000 in
theorem chordOne_right (x : Ev) (vp vt vm : Value) (w : World) (h : EvR w vp vt vm x) (hR : Ready w) (hq : fewE x = true) (hr : Evt.right x = true) :
    Calls Tryd.prog 9 #[evv x vp vt vm] w fun ed w' => ed = .returned (.bool true) ∧ Below w.heap.size w w' := by
  obtain ⟨k, ps, ts, b, d, n, e0, ms, str⟩ := x
  obtain ⟨hps, hts, hms, hsz⟩ := h
  dsimp only at hps hts hms hsz hq hr ⊢
  have Hps := Lib.hid hps
  obtain ⟨pps, cps, rfl, lps⟩ := sl_shape hps
  have Hts := Lib.hid hts
  obtain ⟨pts, cts, rfl, lts⟩ := sl_shape hts
  have Hms := Lib.hid hms
  obtain ⟨pms, cms, rfl, lms⟩ := sl_shape hms
  clear hps hts hms
  have hB0 : Below w.heap.size w w := Below.refl _ _
  go_enter Tryd.func9, Tryd.ntmps9
  go_wp2_with fail
  have hR' := hR.below (hB0.alloc hB0.size (.cells #[.int .i64 k, .slice pps ps.length cps, .slice pts ts.length cts, .int .i64 b, .int .i64 d, .int .i64 n, .int .i64 e0, .slice pms ms.length cms, .string str] 28))
  refine (awake_any _ hR').mono ?_
  rintro e w1 ⟨rfl, hb1⟩
  clear hR'
  have hs1 : Below w.heap.size w w1 := Below.trans (by repeat (first | exact Below.refl _ _ | refine Below.alloc ?_ (by simp <;> omega) _)) (hb1.mono (by simp <;> omega))
  replace Hps := Lib.hid (Hps.out.later hs1)
  replace Hts := Lib.hid (Hts.out.later hs1)
  replace Hms := Lib.hid (Hms.out.later hs1)
  have c_e_0 : w1.cell? ⟨w.heap.size, 0, none⟩ = some (.int .i64 k) := (hb1.cell (by simp <;> omega)).trans (by go_simp)
  have c_e_1 : w1.cell? ⟨w.heap.size, 1, none⟩ = some (.slice pps ps.length cps) := (hb1.cell (by simp <;> omega)).trans (by go_simp)
  have c_e_2 : w1.cell? ⟨w.heap.size, 2, none⟩ = some (.slice pts ts.length cts) := (hb1.cell (by simp <;> omega)).trans (by go_simp)
  have c_e_3 : w1.cell? ⟨w.heap.size, 3, none⟩ = some (.int .i64 b) := (hb1.cell (by simp <;> omega)).trans (by go_simp)
  have c_e_4 : w1.cell? ⟨w.heap.size, 4, none⟩ = some (.int .i64 d) := (hb1.cell (by simp <;> omega)).trans (by go_simp)
  have c_e_5 : w1.cell? ⟨w.heap.size, 5, none⟩ = some (.int .i64 n) := (hb1.cell (by simp <;> omega)).trans (by go_simp)
  have c_e_6 : w1.cell? ⟨w.heap.size, 6, none⟩ = some (.int .i64 e0) := (hb1.cell (by simp <;> omega)).trans (by go_simp)
  have c_e_7 : w1.cell? ⟨w.heap.size, 7, none⟩ = some (.slice pms ms.length cms) := (hb1.cell (by simp <;> omega)).trans (by go_simp)
  have c_e_8 : w1.cell? ⟨w.heap.size, 8, none⟩ = some (.string str) := (hb1.cell (by simp <;> omega)).trans (by go_simp)
  have z_e := World.block_lt_of_cell? _ _ c_e_0
  have hB1 := below_two hB0 hs1
  clear hB0 hs1 hb1
  go_wp2_with fail
  have hs2 : Below w1.heap.size w1 w1 := by repeat (first | exact Below.refl _ _ | refine Below.alloc ?_ (by simp <;> omega) _)
  replace Hps := Lib.hid (Hps.out.later hs2)
  replace Hts := Lib.hid (Hts.out.later hs2)
  replace Hms := Lib.hid (Hms.out.later hs2)
  replace c_e_0 := cell_later hs2 c_e_0
  replace c_e_1 := cell_later hs2 c_e_1
  replace c_e_2 := cell_later hs2 c_e_2
  replace c_e_3 := cell_later hs2 c_e_3
  replace c_e_4 := cell_later hs2 c_e_4
  replace c_e_5 := cell_later hs2 c_e_5
  replace c_e_6 := cell_later hs2 c_e_6
  replace c_e_7 := cell_later hs2 c_e_7
  replace c_e_8 := cell_later hs2 c_e_8
  have hB2 := below_two hB1 hs2
  clear hB1 hs2
  have y2_e := z_e
  generalize w1 = w2 at *
  clear z_e
  have z_e := World.block_lt_of_cell? _ _ c_e_0
  have HQ := Lib.hid hq
  have HRT := Lib.hid hr
  have HC1 : Hid (Evt.chordE [⟨k, ps, ts, b, d, n, e0, ms, str⟩] = (⟨k, ps, ts, b, d, n, e0, ms, str⟩, 0)) := Lib.hid (by rw [Evt.chordE_one (Or.inl rfl), hr]; rfl)
  have HC2 : Hid (Evt.chordE [⟨k, ps, ts, b, d, n, e0, ms, str⟩, ⟨k, ps, ts, b, d, n, e0, ms, str⟩] = (⟨k, ps, ts, b, d, n, e0, ms, str⟩, 0)) := Lib.hid (by rw [Evt.chordE_one (Or.inr rfl), hr]; rfl)
  clear hq hr
  go_wp2_with fail
  have hR' := hR.below hB2
  refine (few_is HQ.out _ _ _ _ ⟨Hps.out.later (by repeat (first | exact Below.refl _ _ | refine Below.alloc ?_ (by simp <;> omega) _)), Hts.out.later (by repeat (first | exact Below.refl _ _ | refine Below.alloc ?_ (by simp <;> omega) _)), Hms.out.later (by repeat (first | exact Below.refl _ _ | refine Below.alloc ?_ (by simp <;> omega) _)), hsz⟩).mono ?_
  rintro e w3 ⟨rfl, hb3⟩
  clear hR'
  have hs3 := hb3
  replace Hps := Lib.hid (Hps.out.later hs3)
  replace Hts := Lib.hid (Hts.out.later hs3)
  replace Hms := Lib.hid (Hms.out.later hs3)
  replace c_e_0 := cell_later hs3 c_e_0
  replace c_e_1 := cell_later hs3 c_e_1
  replace c_e_2 := cell_later hs3 c_e_2
  replace c_e_3 := cell_later hs3 c_e_3
  replace c_e_4 := cell_later hs3 c_e_4
  replace c_e_5 := cell_later hs3 c_e_5
  replace c_e_6 := cell_later hs3 c_e_6
  replace c_e_7 := cell_later hs3 c_e_7
  replace c_e_8 := cell_later hs3 c_e_8
  clear z_e
  have z_e := World.block_lt_of_cell? _ _ c_e_0
  have hB3 := below_two hB2 hs3
  clear hB2 hs3
  go_wp2_with fail
  have hR' := hR.below (hB3.alloc hB3.size (.cells #[.int .i64 k, .slice pps ps.length cps, .slice pts ts.length cts, .int .i64 b, .int .i64 d, .int .i64 n, .int .i64 e0, .slice pms ms.length cms, .string str] 28))
  have HEVS : Evs (w3.alloc (.cells #[.int .i64 k, .slice pps ps.length cps, .slice pts ts.length cts, .int .i64 b, .int .i64 d, .int .i64 n, .int .i64 e0, .slice pms ms.length cms, .string str] 28)) (.slice (some ⟨w3.heap.size, 0, none⟩) 1 1) [((⟨k, ps, ts, b, d, n, e0, ms, str⟩, .slice pps ps.length cps, .slice pts ts.length cts, .slice pms ms.length cms) : EM)] := evs_new2 (w := w3) (ys := [((⟨k, ps, ts, b, d, n, e0, ms, str⟩, .slice pps ps.length cps, .slice pts ts.length cts, .slice pms ms.length cms) : EM)]) (by simp) (by simp) (fun z hz => by
    have hz1 : z = ((⟨k, ps, ts, b, d, n, e0, ms, str⟩, .slice pps ps.length cps, .slice pts ts.length cts, .slice pms ms.length cms) : EM) := by simpa using hz
    subst hz1
    exact ⟨Hps.out.later (Below.refl _ _), Hts.out.later (Below.refl _ _), Hms.out.later (Below.refl _ _), hsz⟩)
  refine (chord_is (ys := [((⟨k, ps, ts, b, d, n, e0, ms, str⟩, .slice pps ps.length cps, .slice pts ts.length cts, .slice pms ms.length cms) : EM)]) HC1.out _ _ HEVS (by simp) hR').mono ?_
  rintro e w4 ⟨vp, vt, vm, rfl, hev, hb4⟩
  clear hR'
  have hs4 : Below w3.heap.size w3 w4 := Below.trans (by repeat (first | exact Below.refl _ _ | refine Below.alloc ?_ (by simp <;> omega) _)) (hb4.mono (by simp <;> omega))
  replace Hps := Lib.hid (Hps.out.later hs4)
  replace Hts := Lib.hid (Hts.out.later hs4)
  replace Hms := Lib.hid (Hms.out.later hs4)
  replace c_e_0 := cell_later hs4 c_e_0
  replace c_e_1 := cell_later hs4 c_e_1
  replace c_e_2 := cell_later hs4 c_e_2
  replace c_e_3 := cell_later hs4 c_e_3
  replace c_e_4 := cell_later hs4 c_e_4
  replace c_e_5 := cell_later hs4 c_e_5
  replace c_e_6 := cell_later hs4 c_e_6
  replace c_e_7 := cell_later hs4 c_e_7
  replace c_e_8 := cell_later hs4 c_e_8
  clear z_e
  have z_e := World.block_lt_of_cell? _ _ c_e_0
  have hB4 := below_two hB3 hs4
  clear hB3 hs4 hb4
  dsimp only at hev
  obtain ⟨pa, ca, e3, _⟩ := sl_shape hev.ps
  have e3 : vp = .slice pa ps.length ca := e3
  obtain ⟨qa, da, e4, _⟩ := sl_shape hev.ts
  have e4 : vt = .slice qa ts.length da := e4
  obtain ⟨ra, fa, e5, _⟩ := sl_shape hev.ms
  have e5 : vm = .slice ra ms.length fa := e5
  subst e3 e4 e5
  have HVa := Lib.hid hev
  clear hev HEVS
  go_wp2_with fail
  have hR' := hR.below ((hB4.alloc hB4.size (.cells #[.int .i64 k, .slice pa ps.length ca, .slice qa ts.length da, .int .i64 b, .int .i64 d, .int .i64 n, .int .i64 e0, .slice ra ms.length fa, .string str] 28)).alloc (hB4.alloc hB4.size (.cells #[.int .i64 k, .slice pa ps.length ca, .slice qa ts.length da, .int .i64 b, .int .i64 d, .int .i64 n, .int .i64 e0, .slice ra ms.length fa, .string str] 28)).size (.cells #[.int .i64 k, .slice pps ps.length cps, .slice pts ts.length cts, .int .i64 b, .int .i64 d, .int .i64 n, .int .i64 e0, .slice pms ms.length cms, .string str, .int .i64 k, .slice pps ps.length cps, .slice pts ts.length cts, .int .i64 b, .int .i64 d, .int .i64 n, .int .i64 e0, .slice pms ms.length cms, .string str] 28))
  have HEVS : Evs ((w4.alloc (.cells #[.int .i64 k, .slice pa ps.length ca, .slice qa ts.length da, .int .i64 b, .int .i64 d, .int .i64 n, .int .i64 e0, .slice ra ms.length fa, .string str] 28)).alloc (.cells #[.int .i64 k, .slice pps ps.length cps, .slice pts ts.length cts, .int .i64 b, .int .i64 d, .int .i64 n, .int .i64 e0, .slice pms ms.length cms, .string str, .int .i64 k, .slice pps ps.length cps, .slice pts ts.length cts, .int .i64 b, .int .i64 d, .int .i64 n, .int .i64 e0, .slice pms ms.length cms, .string str] 28)) (.slice (some ⟨w4.heap.size + 1, 0, none⟩) 2 2) [((⟨k, ps, ts, b, d, n, e0, ms, str⟩, .slice pps ps.length cps, .slice pts ts.length cts, .slice pms ms.length cms) : EM), ((⟨k, ps, ts, b, d, n, e0, ms, str⟩, .slice pps ps.length cps, .slice pts ts.length cts, .slice pms ms.length cms) : EM)] := evs_new2 (w := (w4.alloc (.cells #[.int .i64 k, .slice pa ps.length ca, .slice qa ts.length da, .int .i64 b, .int .i64 d, .int .i64 n, .int .i64 e0, .slice ra ms.length fa, .string str] 28))) (ys := [((⟨k, ps, ts, b, d, n, e0, ms, str⟩, .slice pps ps.length cps, .slice pts ts.length cts, .slice pms ms.length cms) : EM), ((⟨k, ps, ts, b, d, n, e0, ms, str⟩, .slice pps ps.length cps, .slice pts ts.length cts, .slice pms ms.length cms) : EM)]) (by simp) (by simp) (fun z hz => by
    have hz1 : z = ((⟨k, ps, ts, b, d, n, e0, ms, str⟩, .slice pps ps.length cps, .slice pts ts.length cts, .slice pms ms.length cms) : EM) := by simpa using hz
    subst hz1
    exact ⟨Hps.out.later (by repeat (first | exact Below.refl _ _ | refine Below.alloc ?_ (by simp <;> omega) _)), Hts.out.later (by repeat (first | exact Below.refl _ _ | refine Below.alloc ?_ (by simp <;> omega) _)), Hms.out.later (by repeat (first | exact Below.refl _ _ | refine Below.alloc ?_ (by simp <;> omega) _)), hsz⟩)
  refine (chord_is (ys := [((⟨k, ps, ts, b, d, n, e0, ms, str⟩, .slice pps ps.length cps, .slice pts ts.length cts, .slice pms ms.length cms) : EM), ((⟨k, ps, ts, b, d, n, e0, ms, str⟩, .slice pps ps.length cps, .slice pts ts.length cts, .slice pms ms.length cms) : EM)]) HC2.out _ _ HEVS (by simp) hR').mono ?_
  rintro e w5 ⟨vp, vt, vm, rfl, hev, hb5⟩
  clear hR'
  have hs5 : Below w4.heap.size w4 w5 := Below.trans (by repeat (first | exact Below.refl _ _ | refine Below.alloc ?_ (by simp <;> omega) _)) (hb5.mono (by simp <;> omega))
  replace Hps := Lib.hid (Hps.out.later hs5)
  replace Hts := Lib.hid (Hts.out.later hs5)
  replace Hms := Lib.hid (Hms.out.later hs5)
  replace HVa := Lib.hid (HVa.out.later hs5)
  replace c_e_0 := cell_later hs5 c_e_0
  replace c_e_1 := cell_later hs5 c_e_1
  replace c_e_2 := cell_later hs5 c_e_2
  replace c_e_3 := cell_later hs5 c_e_3
  replace c_e_4 := cell_later hs5 c_e_4
  replace c_e_5 := cell_later hs5 c_e_5
  replace c_e_6 := cell_later hs5 c_e_6
  replace c_e_7 := cell_later hs5 c_e_7
  replace c_e_8 := cell_later hs5 c_e_8
  have c_a_0 : w5.cell? ⟨w4.heap.size, 0, none⟩ = some (.int .i64 k) := (hb5.cell (by simp <;> omega)).trans (by go_simp)
  have c_a_1 : w5.cell? ⟨w4.heap.size, 1, none⟩ = some (.slice pa ps.length ca) := (hb5.cell (by simp <;> omega)).trans (by go_simp)
  have c_a_2 : w5.cell? ⟨w4.heap.size, 2, none⟩ = some (.slice qa ts.length da) := (hb5.cell (by simp <;> omega)).trans (by go_simp)
  have c_a_3 : w5.cell? ⟨w4.heap.size, 3, none⟩ = some (.int .i64 b) := (hb5.cell (by simp <;> omega)).trans (by go_simp)
  have c_a_4 : w5.cell? ⟨w4.heap.size, 4, none⟩ = some (.int .i64 d) := (hb5.cell (by simp <;> omega)).trans (by go_simp)
  have c_a_5 : w5.cell? ⟨w4.heap.size, 5, none⟩ = some (.int .i64 n) := (hb5.cell (by simp <;> omega)).trans (by go_simp)
  have c_a_6 : w5.cell? ⟨w4.heap.size, 6, none⟩ = some (.int .i64 e0) := (hb5.cell (by simp <;> omega)).trans (by go_simp)
  have c_a_7 : w5.cell? ⟨w4.heap.size, 7, none⟩ = some (.slice ra ms.length fa) := (hb5.cell (by simp <;> omega)).trans (by go_simp)
  have c_a_8 : w5.cell? ⟨w4.heap.size, 8, none⟩ = some (.string str) := (hb5.cell (by simp <;> omega)).trans (by go_simp)
  have z_a := World.block_lt_of_cell? _ _ c_a_0
  clear z_e
  have z_e := World.block_lt_of_cell? _ _ c_e_0
  have hB5 := below_two hB4 hs5
  clear hB4 hs5 hb5
  dsimp only at hev
  obtain ⟨pb, cb, e3, _⟩ := sl_shape hev.ps
  have e3 : vp = .slice pb ps.length cb := e3
  obtain ⟨qb, db, e4, _⟩ := sl_shape hev.ts
  have e4 : vt = .slice qb ts.length db := e4
  obtain ⟨rb, fb, e5, _⟩ := sl_shape hev.ms
  have e5 : vm = .slice rb ms.length fb := e5
  subst e3 e4 e5
  have HVb := Lib.hid hev
  clear hev HEVS
  go_wp2_with fail
  have hs6 : Below w5.heap.size w5 (w5.alloc (.cells #[.int .i64 k, .slice pb ps.length cb, .slice qb ts.length db, .int .i64 b, .int .i64 d, .int .i64 n, .int .i64 e0, .slice rb ms.length fb, .string str] 28)) := by repeat (first | exact Below.refl _ _ | refine Below.alloc ?_ (by simp <;> omega) _)
  replace Hps := Lib.hid (Hps.out.later hs6)
  replace Hts := Lib.hid (Hts.out.later hs6)
  replace Hms := Lib.hid (Hms.out.later hs6)
  replace HVa := Lib.hid (HVa.out.later hs6)
  replace HVb := Lib.hid (HVb.out.later hs6)
  replace c_e_0 := cell_later hs6 c_e_0
  replace c_e_1 := cell_later hs6 c_e_1
  replace c_e_2 := cell_later hs6 c_e_2
  replace c_e_3 := cell_later hs6 c_e_3
  replace c_e_4 := cell_later hs6 c_e_4
  replace c_e_5 := cell_later hs6 c_e_5
  replace c_e_6 := cell_later hs6 c_e_6
  replace c_e_7 := cell_later hs6 c_e_7
  replace c_e_8 := cell_later hs6 c_e_8
  replace c_a_0 := cell_later hs6 c_a_0
  replace c_a_1 := cell_later hs6 c_a_1
  replace c_a_2 := cell_later hs6 c_a_2
  replace c_a_3 := cell_later hs6 c_a_3
  replace c_a_4 := cell_later hs6 c_a_4
  replace c_a_5 := cell_later hs6 c_a_5
  replace c_a_6 := cell_later hs6 c_a_6
  replace c_a_7 := cell_later hs6 c_a_7
  replace c_a_8 := cell_later hs6 c_a_8
  have c_b_0 : (w5.alloc (.cells #[.int .i64 k, .slice pb ps.length cb, .slice qb ts.length db, .int .i64 b, .int .i64 d, .int .i64 n, .int .i64 e0, .slice rb ms.length fb, .string str] 28)).cell? ⟨w5.heap.size, 0, none⟩ = some (.int .i64 k) := by go_simp
  have c_b_1 : (w5.alloc (.cells #[.int .i64 k, .slice pb ps.length cb, .slice qb ts.length db, .int .i64 b, .int .i64 d, .int .i64 n, .int .i64 e0, .slice rb ms.length fb, .string str] 28)).cell? ⟨w5.heap.size, 1, none⟩ = some (.slice pb ps.length cb) := by go_simp
  have c_b_2 : (w5.alloc (.cells #[.int .i64 k, .slice pb ps.length cb, .slice qb ts.length db, .int .i64 b, .int .i64 d, .int .i64 n, .int .i64 e0, .slice rb ms.length fb, .string str] 28)).cell? ⟨w5.heap.size, 2, none⟩ = some (.slice qb ts.length db) := by go_simp
  have c_b_3 : (w5.alloc (.cells #[.int .i64 k, .slice pb ps.length cb, .slice qb ts.length db, .int .i64 b, .int .i64 d, .int .i64 n, .int .i64 e0, .slice rb ms.length fb, .string str] 28)).cell? ⟨w5.heap.size, 3, none⟩ = some (.int .i64 b) := by go_simp
  have c_b_4 : (w5.alloc (.cells #[.int .i64 k, .slice pb ps.length cb, .slice qb ts.length db, .int .i64 b, .int .i64 d, .int .i64 n, .int .i64 e0, .slice rb ms.length fb, .string str] 28)).cell? ⟨w5.heap.size, 4, none⟩ = some (.int .i64 d) := by go_simp
  have c_b_5 : (w5.alloc (.cells #[.int .i64 k, .slice pb ps.length cb, .slice qb ts.length db, .int .i64 b, .int .i64 d, .int .i64 n, .int .i64 e0, .slice rb ms.length fb, .string str] 28)).cell? ⟨w5.heap.size, 5, none⟩ = some (.int .i64 n) := by go_simp
  have c_b_6 : (w5.alloc (.cells #[.int .i64 k, .slice pb ps.length cb, .slice qb ts.length db, .int .i64 b, .int .i64 d, .int .i64 n, .int .i64 e0, .slice rb ms.length fb, .string str] 28)).cell? ⟨w5.heap.size, 6, none⟩ = some (.int .i64 e0) := by go_simp
  have c_b_7 : (w5.alloc (.cells #[.int .i64 k, .slice pb ps.length cb, .slice qb ts.length db, .int .i64 b, .int .i64 d, .int .i64 n, .int .i64 e0, .slice rb ms.length fb, .string str] 28)).cell? ⟨w5.heap.size, 7, none⟩ = some (.slice rb ms.length fb) := by go_simp
  have c_b_8 : (w5.alloc (.cells #[.int .i64 k, .slice pb ps.length cb, .slice qb ts.length db, .int .i64 b, .int .i64 d, .int .i64 n, .int .i64 e0, .slice rb ms.length fb, .string str] 28)).cell? ⟨w5.heap.size, 8, none⟩ = some (.string str) := by go_simp
  have hB6 := below_two hB5 hs6
  clear hB5 hs6
  have y6_a := z_a
  have y6_e := z_e
  generalize (w5.alloc (.cells #[.int .i64 k, .slice pb ps.length cb, .slice qb ts.length db, .int .i64 b, .int .i64 d, .int .i64 n, .int .i64 e0, .slice rb ms.length fb, .string str] 28)) = w6 at *
  clear z_a
  have z_a := World.block_lt_of_cell? _ _ c_a_0
  have z_b := World.block_lt_of_cell? _ _ c_b_0
  clear z_e
  have z_e := World.block_lt_of_cell? _ _ c_e_0
  go_wp2_with fail
  have hR' := hR.below hB6
  refine (eright_is HRT.out _ _ _ _ ⟨Hps.out, Hts.out, Hms.out, hsz⟩ hR').mono ?_
  rintro e w7 ⟨rfl, hb7⟩
  clear hR'
  have hs7 := hb7
  replace Hps := Lib.hid (Hps.out.later hs7)
  replace Hts := Lib.hid (Hts.out.later hs7)
  replace Hms := Lib.hid (Hms.out.later hs7)
  replace HVa := Lib.hid (HVa.out.later hs7)
  replace HVb := Lib.hid (HVb.out.later hs7)
  replace c_e_0 := cell_later hs7 c_e_0
  replace c_e_1 := cell_later hs7 c_e_1
  replace c_e_2 := cell_later hs7 c_e_2
  replace c_e_3 := cell_later hs7 c_e_3
  replace c_e_4 := cell_later hs7 c_e_4
  replace c_e_5 := cell_later hs7 c_e_5
  replace c_e_6 := cell_later hs7 c_e_6
  replace c_e_7 := cell_later hs7 c_e_7
  replace c_e_8 := cell_later hs7 c_e_8
  replace c_a_0 := cell_later hs7 c_a_0
  replace c_a_1 := cell_later hs7 c_a_1
  replace c_a_2 := cell_later hs7 c_a_2
  replace c_a_3 := cell_later hs7 c_a_3
  replace c_a_4 := cell_later hs7 c_a_4
  replace c_a_5 := cell_later hs7 c_a_5
  replace c_a_6 := cell_later hs7 c_a_6
  replace c_a_7 := cell_later hs7 c_a_7
  replace c_a_8 := cell_later hs7 c_a_8
  replace c_b_0 := cell_later hs7 c_b_0
  replace c_b_1 := cell_later hs7 c_b_1
  replace c_b_2 := cell_later hs7 c_b_2
  replace c_b_3 := cell_later hs7 c_b_3
  replace c_b_4 := cell_later hs7 c_b_4
  replace c_b_5 := cell_later hs7 c_b_5
  replace c_b_6 := cell_later hs7 c_b_6
  replace c_b_7 := cell_later hs7 c_b_7
  replace c_b_8 := cell_later hs7 c_b_8
  clear z_a
  have z_a := World.block_lt_of_cell? _ _ c_a_0
  clear z_b
  have z_b := World.block_lt_of_cell? _ _ c_b_0
  clear z_e
  have z_e := World.block_lt_of_cell? _ _ c_e_0
  have hB7 := below_two hB6 hs7
  clear hB6 hs7
  go_wp2_with fail
  have hR' := hR.below hB7
  refine (esame_is (sameE_self _) _ _ _ _ _ _ _ HVa.out ⟨Hps.out, Hts.out, Hms.out, hsz⟩).mono ?_
  rintro e w8 ⟨rfl, hb8⟩
  clear hR'
  have hs8 := hb8
  replace Hps := Lib.hid (Hps.out.later hs8)
  replace Hts := Lib.hid (Hts.out.later hs8)
  replace Hms := Lib.hid (Hms.out.later hs8)
  replace HVa := Lib.hid (HVa.out.later hs8)
  replace HVb := Lib.hid (HVb.out.later hs8)
  replace c_e_0 := cell_later hs8 c_e_0
  replace c_e_1 := cell_later hs8 c_e_1
  replace c_e_2 := cell_later hs8 c_e_2
  replace c_e_3 := cell_later hs8 c_e_3
  replace c_e_4 := cell_later hs8 c_e_4
  replace c_e_5 := cell_later hs8 c_e_5
  replace c_e_6 := cell_later hs8 c_e_6
  replace c_e_7 := cell_later hs8 c_e_7
  replace c_e_8 := cell_later hs8 c_e_8
  replace c_a_0 := cell_later hs8 c_a_0
  replace c_a_1 := cell_later hs8 c_a_1
  replace c_a_2 := cell_later hs8 c_a_2
  replace c_a_3 := cell_later hs8 c_a_3
  replace c_a_4 := cell_later hs8 c_a_4
  replace c_a_5 := cell_later hs8 c_a_5
  replace c_a_6 := cell_later hs8 c_a_6
  replace c_a_7 := cell_later hs8 c_a_7
  replace c_a_8 := cell_later hs8 c_a_8
  replace c_b_0 := cell_later hs8 c_b_0
  replace c_b_1 := cell_later hs8 c_b_1
  replace c_b_2 := cell_later hs8 c_b_2
  replace c_b_3 := cell_later hs8 c_b_3
  replace c_b_4 := cell_later hs8 c_b_4
  replace c_b_5 := cell_later hs8 c_b_5
  replace c_b_6 := cell_later hs8 c_b_6
  replace c_b_7 := cell_later hs8 c_b_7
  replace c_b_8 := cell_later hs8 c_b_8
  clear z_a
  have z_a := World.block_lt_of_cell? _ _ c_a_0
  clear z_b
  have z_b := World.block_lt_of_cell? _ _ c_b_0
  clear z_e
  have z_e := World.block_lt_of_cell? _ _ c_e_0
  have hB8 := below_two hB7 hs8
  clear hB7 hs8
  go_wp2_with fail
  have hR' := hR.below hB8
  refine (esame_is (sameE_self _) _ _ _ _ _ _ _ HVb.out ⟨Hps.out, Hts.out, Hms.out, hsz⟩).mono ?_
  rintro e w9 ⟨rfl, hb9⟩
  clear hR'
  have hs9 := hb9
  replace Hps := Lib.hid (Hps.out.later hs9)
  replace Hts := Lib.hid (Hts.out.later hs9)
  replace Hms := Lib.hid (Hms.out.later hs9)
  replace HVa := Lib.hid (HVa.out.later hs9)
  replace HVb := Lib.hid (HVb.out.later hs9)
  replace c_e_0 := cell_later hs9 c_e_0
  replace c_e_1 := cell_later hs9 c_e_1
  replace c_e_2 := cell_later hs9 c_e_2
  replace c_e_3 := cell_later hs9 c_e_3
  replace c_e_4 := cell_later hs9 c_e_4
  replace c_e_5 := cell_later hs9 c_e_5
  replace c_e_6 := cell_later hs9 c_e_6
  replace c_e_7 := cell_later hs9 c_e_7
  replace c_e_8 := cell_later hs9 c_e_8
  replace c_a_0 := cell_later hs9 c_a_0
  replace c_a_1 := cell_later hs9 c_a_1
  replace c_a_2 := cell_later hs9 c_a_2
  replace c_a_3 := cell_later hs9 c_a_3
  replace c_a_4 := cell_later hs9 c_a_4
  replace c_a_5 := cell_later hs9 c_a_5
  replace c_a_6 := cell_later hs9 c_a_6
  replace c_a_7 := cell_later hs9 c_a_7
  replace c_a_8 := cell_later hs9 c_a_8
  replace c_b_0 := cell_later hs9 c_b_0
  replace c_b_1 := cell_later hs9 c_b_1
  replace c_b_2 := cell_later hs9 c_b_2
  replace c_b_3 := cell_later hs9 c_b_3
  replace c_b_4 := cell_later hs9 c_b_4
  replace c_b_5 := cell_later hs9 c_b_5
  replace c_b_6 := cell_later hs9 c_b_6
  replace c_b_7 := cell_later hs9 c_b_7
  replace c_b_8 := cell_later hs9 c_b_8
  clear z_a
  have z_a := World.block_lt_of_cell? _ _ c_a_0
  clear z_b
  have z_b := World.block_lt_of_cell? _ _ c_b_0
  clear z_e
  have z_e := World.block_lt_of_cell? _ _ c_e_0
  have hB9 := below_two hB8 hs9
  clear hB8 hs9
  go_wp2
  go_ret
  exact ⟨rfl, hB9⟩

set_option maxRecDepth 100000 in
set_option maxHeartbeats 40000000 in
theorem chordOne_wrong (x : Ev) (vp vt vm : Value) (w : World) (h : EvR w vp vt vm x) (hR : Ready w) (hq : fewE x = true) (hr : Evt.right x = false) :
    Calls Tryd.prog 9 #[evv x vp vt vm] w fun ed w' => ed = .returned (.bool true) ∧ Below w.heap.size w w' := by
  obtain ⟨k, ps, ts, b, d, n, e0, ms, str⟩ := x
  obtain ⟨hps, hts, hms, hsz⟩ := h
  dsimp only at hps hts hms hsz hq hr ⊢
  have Hps := Lib.hid hps
  obtain ⟨pps, cps, rfl, lps⟩ := sl_shape hps
  have Hts := Lib.hid hts
  obtain ⟨pts, cts, rfl, lts⟩ := sl_shape hts
  have Hms := Lib.hid hms
  obtain ⟨pms, cms, rfl, lms⟩ := sl_shape hms
  clear hps hts hms
  have hB0 : Below w.heap.size w w := Below.refl _ _
  go_enter Tryd.func9, Tryd.ntmps9
  go_wp2_with fail
  have hR' := hR.below (hB0.alloc hB0.size (.cells #[.int .i64 k, .slice pps ps.length cps, .slice pts ts.length cts, .int .i64 b, .int .i64 d, .int .i64 n, .int .i64 e0, .slice pms ms.length cms, .string str] 28))
  refine (awake_any _ hR').mono ?_
  rintro e w1 ⟨rfl, hb1⟩
  clear hR'
  have hs1 : Below w.heap.size w w1 := Below.trans (by repeat (first | exact Below.refl _ _ | refine Below.alloc ?_ (by simp <;> omega) _)) (hb1.mono (by simp <;> omega))
  replace Hps := Lib.hid (Hps.out.later hs1)
  replace Hts := Lib.hid (Hts.out.later hs1)
  replace Hms := Lib.hid (Hms.out.later hs1)
  have c_e_0 : w1.cell? ⟨w.heap.size, 0, none⟩ = some (.int .i64 k) := (hb1.cell (by simp <;> omega)).trans (by go_simp)
  have c_e_1 : w1.cell? ⟨w.heap.size, 1, none⟩ = some (.slice pps ps.length cps) := (hb1.cell (by simp <;> omega)).trans (by go_simp)
  have c_e_2 : w1.cell? ⟨w.heap.size, 2, none⟩ = some (.slice pts ts.length cts) := (hb1.cell (by simp <;> omega)).trans (by go_simp)
  have c_e_3 : w1.cell? ⟨w.heap.size, 3, none⟩ = some (.int .i64 b) := (hb1.cell (by simp <;> omega)).trans (by go_simp)
  have c_e_4 : w1.cell? ⟨w.heap.size, 4, none⟩ = some (.int .i64 d) := (hb1.cell (by simp <;> omega)).trans (by go_simp)
  have c_e_5 : w1.cell? ⟨w.heap.size, 5, none⟩ = some (.int .i64 n) := (hb1.cell (by simp <;> omega)).trans (by go_simp)
  have c_e_6 : w1.cell? ⟨w.heap.size, 6, none⟩ = some (.int .i64 e0) := (hb1.cell (by simp <;> omega)).trans (by go_simp)
  have c_e_7 : w1.cell? ⟨w.heap.size, 7, none⟩ = some (.slice pms ms.length cms) := (hb1.cell (by simp <;> omega)).trans (by go_simp)
  have c_e_8 : w1.cell? ⟨w.heap.size, 8, none⟩ = some (.string str) := (hb1.cell (by simp <;> omega)).trans (by go_simp)
  have z_e := World.block_lt_of_cell? _ _ c_e_0
  have hB1 := below_two hB0 hs1
  clear hB0 hs1 hb1
  go_wp2_with fail
  have hs2 : Below w1.heap.size w1 w1 := by repeat (first | exact Below.refl _ _ | refine Below.alloc ?_ (by simp <;> omega) _)
  replace Hps := Lib.hid (Hps.out.later hs2)
  replace Hts := Lib.hid (Hts.out.later hs2)
  replace Hms := Lib.hid (Hms.out.later hs2)
  replace c_e_0 := cell_later hs2 c_e_0
  replace c_e_1 := cell_later hs2 c_e_1
  replace c_e_2 := cell_later hs2 c_e_2
  replace c_e_3 := cell_later hs2 c_e_3
  replace c_e_4 := cell_later hs2 c_e_4
  replace c_e_5 := cell_later hs2 c_e_5
  replace c_e_6 := cell_later hs2 c_e_6
  replace c_e_7 := cell_later hs2 c_e_7
  replace c_e_8 := cell_later hs2 c_e_8
  have hB2 := below_two hB1 hs2
  clear hB1 hs2
  have y2_e := z_e
  generalize w1 = w2 at *
  clear z_e
  have z_e := World.block_lt_of_cell? _ _ c_e_0
  have HQ := Lib.hid hq
  have HRT := Lib.hid hr
  have HC1 : Hid (Evt.chordE [⟨k, ps, ts, b, d, n, e0, ms, str⟩] = (Evt.zero, 60)) := Lib.hid (by rw [Evt.chordE_one (Or.inl rfl), hr]; rfl)
  have HC2 : Hid (Evt.chordE [⟨k, ps, ts, b, d, n, e0, ms, str⟩, ⟨k, ps, ts, b, d, n, e0, ms, str⟩] = (Evt.zero, 60)) := Lib.hid (by rw [Evt.chordE_one (Or.inr rfl), hr]; rfl)
  clear hq hr
  go_wp2_with fail
  have hR' := hR.below hB2
  refine (few_is HQ.out _ _ _ _ ⟨Hps.out.later (by repeat (first | exact Below.refl _ _ | refine Below.alloc ?_ (by simp <;> omega) _)), Hts.out.later (by repeat (first | exact Below.refl _ _ | refine Below.alloc ?_ (by simp <;> omega) _)), Hms.out.later (by repeat (first | exact Below.refl _ _ | refine Below.alloc ?_ (by simp <;> omega) _)), hsz⟩).mono ?_
  rintro e w3 ⟨rfl, hb3⟩
  clear hR'
  have hs3 := hb3
  replace Hps := Lib.hid (Hps.out.later hs3)
  replace Hts := Lib.hid (Hts.out.later hs3)
  replace Hms := Lib.hid (Hms.out.later hs3)
  replace c_e_0 := cell_later hs3 c_e_0
  replace c_e_1 := cell_later hs3 c_e_1
  replace c_e_2 := cell_later hs3 c_e_2
  replace c_e_3 := cell_later hs3 c_e_3
  replace c_e_4 := cell_later hs3 c_e_4
  replace c_e_5 := cell_later hs3 c_e_5
  replace c_e_6 := cell_later hs3 c_e_6
  replace c_e_7 := cell_later hs3 c_e_7
  replace c_e_8 := cell_later hs3 c_e_8
  clear z_e
  have z_e := World.block_lt_of_cell? _ _ c_e_0
  have hB3 := below_two hB2 hs3
  clear hB2 hs3
  go_wp2_with fail
  have hR' := hR.below (hB3.alloc hB3.size (.cells #[.int .i64 k, .slice pps ps.length cps, .slice pts ts.length cts, .int .i64 b, .int .i64 d, .int .i64 n, .int .i64 e0, .slice pms ms.length cms, .string str] 28))
  have HEVS : Evs (w3.alloc (.cells #[.int .i64 k, .slice pps ps.length cps, .slice pts ts.length cts, .int .i64 b, .int .i64 d, .int .i64 n, .int .i64 e0, .slice pms ms.length cms, .string str] 28)) (.slice (some ⟨w3.heap.size, 0, none⟩) 1 1) [((⟨k, ps, ts, b, d, n, e0, ms, str⟩, .slice pps ps.length cps, .slice pts ts.length cts, .slice pms ms.length cms) : EM)] := evs_new2 (w := w3) (ys := [((⟨k, ps, ts, b, d, n, e0, ms, str⟩, .slice pps ps.length cps, .slice pts ts.length cts, .slice pms ms.length cms) : EM)]) (by simp) (by simp) (fun z hz => by
    have hz1 : z = ((⟨k, ps, ts, b, d, n, e0, ms, str⟩, .slice pps ps.length cps, .slice pts ts.length cts, .slice pms ms.length cms) : EM) := by simpa using hz
    subst hz1
    exact ⟨Hps.out.later (Below.refl _ _), Hts.out.later (Below.refl _ _), Hms.out.later (Below.refl _ _), hsz⟩)
  refine (chord_is (ys := [((⟨k, ps, ts, b, d, n, e0, ms, str⟩, .slice pps ps.length cps, .slice pts ts.length cts, .slice pms ms.length cms) : EM)]) HC1.out _ _ HEVS (by simp) hR').mono ?_
  rintro e w4 ⟨vp, vt, vm, rfl, hev, hb4⟩
  clear hR'
  have hs4 : Below w3.heap.size w3 w4 := Below.trans (by repeat (first | exact Below.refl _ _ | refine Below.alloc ?_ (by simp <;> omega) _)) (hb4.mono (by simp <;> omega))
  replace Hps := Lib.hid (Hps.out.later hs4)
  replace Hts := Lib.hid (Hts.out.later hs4)
  replace Hms := Lib.hid (Hms.out.later hs4)
  replace c_e_0 := cell_later hs4 c_e_0
  replace c_e_1 := cell_later hs4 c_e_1
  replace c_e_2 := cell_later hs4 c_e_2
  replace c_e_3 := cell_later hs4 c_e_3
  replace c_e_4 := cell_later hs4 c_e_4
  replace c_e_5 := cell_later hs4 c_e_5
  replace c_e_6 := cell_later hs4 c_e_6
  replace c_e_7 := cell_later hs4 c_e_7
  replace c_e_8 := cell_later hs4 c_e_8
  clear z_e
  have z_e := World.block_lt_of_cell? _ _ c_e_0
  have hB4 := below_two hB3 hs4
  clear hB3 hs4 hb4
  dsimp only at hev
  obtain ⟨pa, ca, e3, _⟩ := sl_shape hev.ps
  have e3 : vp = .slice pa 0 ca := e3
  obtain ⟨qa, da, e4, _⟩ := sl_shape hev.ts
  have e4 : vt = .slice qa 0 da := e4
  obtain ⟨ra, fa, e5, _⟩ := sl_shape hev.ms
  have e5 : vm = .slice ra 0 fa := e5
  subst e3 e4 e5
  have HVa := Lib.hid hev
  clear hev HEVS
  go_wp2_with fail
  have hR' := hR.below ((hB4.alloc hB4.size (.cells #[.int .i64 Evt.zero.k, .slice pa 0 ca, .slice qa 0 da, .int .i64 Evt.zero.b, .int .i64 Evt.zero.d, .int .i64 Evt.zero.n, .int .i64 Evt.zero.e, .slice ra 0 fa, .string Evt.zero.s] 28)).alloc (hB4.alloc hB4.size (.cells #[.int .i64 Evt.zero.k, .slice pa 0 ca, .slice qa 0 da, .int .i64 Evt.zero.b, .int .i64 Evt.zero.d, .int .i64 Evt.zero.n, .int .i64 Evt.zero.e, .slice ra 0 fa, .string Evt.zero.s] 28)).size (.cells #[.int .i64 k, .slice pps ps.length cps, .slice pts ts.length cts, .int .i64 b, .int .i64 d, .int .i64 n, .int .i64 e0, .slice pms ms.length cms, .string str, .int .i64 k, .slice pps ps.length cps, .slice pts ts.length cts, .int .i64 b, .int .i64 d, .int .i64 n, .int .i64 e0, .slice pms ms.length cms, .string str] 28))
  have HEVS : Evs ((w4.alloc (.cells #[.int .i64 Evt.zero.k, .slice pa 0 ca, .slice qa 0 da, .int .i64 Evt.zero.b, .int .i64 Evt.zero.d, .int .i64 Evt.zero.n, .int .i64 Evt.zero.e, .slice ra 0 fa, .string Evt.zero.s] 28)).alloc (.cells #[.int .i64 k, .slice pps ps.length cps, .slice pts ts.length cts, .int .i64 b, .int .i64 d, .int .i64 n, .int .i64 e0, .slice pms ms.length cms, .string str, .int .i64 k, .slice pps ps.length cps, .slice pts ts.length cts, .int .i64 b, .int .i64 d, .int .i64 n, .int .i64 e0, .slice pms ms.length cms, .string str] 28)) (.slice (some ⟨w4.heap.size + 1, 0, none⟩) 2 2) [((⟨k, ps, ts, b, d, n, e0, ms, str⟩, .slice pps ps.length cps, .slice pts ts.length cts, .slice pms ms.length cms) : EM), ((⟨k, ps, ts, b, d, n, e0, ms, str⟩, .slice pps ps.length cps, .slice pts ts.length cts, .slice pms ms.length cms) : EM)] := evs_new2 (w := (w4.alloc (.cells #[.int .i64 Evt.zero.k, .slice pa 0 ca, .slice qa 0 da, .int .i64 Evt.zero.b, .int .i64 Evt.zero.d, .int .i64 Evt.zero.n, .int .i64 Evt.zero.e, .slice ra 0 fa, .string Evt.zero.s] 28))) (ys := [((⟨k, ps, ts, b, d, n, e0, ms, str⟩, .slice pps ps.length cps, .slice pts ts.length cts, .slice pms ms.length cms) : EM), ((⟨k, ps, ts, b, d, n, e0, ms, str⟩, .slice pps ps.length cps, .slice pts ts.length cts, .slice pms ms.length cms) : EM)]) (by simp) (by simp) (fun z hz => by
    have hz1 : z = ((⟨k, ps, ts, b, d, n, e0, ms, str⟩, .slice pps ps.length cps, .slice pts ts.length cts, .slice pms ms.length cms) : EM) := by simpa using hz
    subst hz1
    exact ⟨Hps.out.later (by repeat (first | exact Below.refl _ _ | refine Below.alloc ?_ (by simp <;> omega) _)), Hts.out.later (by repeat (first | exact Below.refl _ _ | refine Below.alloc ?_ (by simp <;> omega) _)), Hms.out.later (by repeat (first | exact Below.refl _ _ | refine Below.alloc ?_ (by simp <;> omega) _)), hsz⟩)
  refine (chord_is (ys := [((⟨k, ps, ts, b, d, n, e0, ms, str⟩, .slice pps ps.length cps, .slice pts ts.length cts, .slice pms ms.length cms) : EM), ((⟨k, ps, ts, b, d, n, e0, ms, str⟩, .slice pps ps.length cps, .slice pts ts.length cts, .slice pms ms.length cms) : EM)]) HC2.out _ _ HEVS (by simp) hR').mono ?_
  rintro e w5 ⟨vp, vt, vm, rfl, hev, hb5⟩
  clear hR'
  have hs5 : Below w4.heap.size w4 w5 := Below.trans (by repeat (first | exact Below.refl _ _ | refine Below.alloc ?_ (by simp <;> omega) _)) (hb5.mono (by simp <;> omega))
  replace Hps := Lib.hid (Hps.out.later hs5)
  replace Hts := Lib.hid (Hts.out.later hs5)
  replace Hms := Lib.hid (Hms.out.later hs5)
  replace HVa := Lib.hid (HVa.out.later hs5)
  replace c_e_0 := cell_later hs5 c_e_0
  replace c_e_1 := cell_later hs5 c_e_1
  replace c_e_2 := cell_later hs5 c_e_2
  replace c_e_3 := cell_later hs5 c_e_3
  replace c_e_4 := cell_later hs5 c_e_4
  replace c_e_5 := cell_later hs5 c_e_5
  replace c_e_6 := cell_later hs5 c_e_6
  replace c_e_7 := cell_later hs5 c_e_7
  replace c_e_8 := cell_later hs5 c_e_8
  have c_a_0 : w5.cell? ⟨w4.heap.size, 0, none⟩ = some (.int .i64 Evt.zero.k) := (hb5.cell (by simp <;> omega)).trans (by go_simp)
  have c_a_1 : w5.cell? ⟨w4.heap.size, 1, none⟩ = some (.slice pa 0 ca) := (hb5.cell (by simp <;> omega)).trans (by go_simp)
  have c_a_2 : w5.cell? ⟨w4.heap.size, 2, none⟩ = some (.slice qa 0 da) := (hb5.cell (by simp <;> omega)).trans (by go_simp)
  have c_a_3 : w5.cell? ⟨w4.heap.size, 3, none⟩ = some (.int .i64 Evt.zero.b) := (hb5.cell (by simp <;> omega)).trans (by go_simp)
  have c_a_4 : w5.cell? ⟨w4.heap.size, 4, none⟩ = some (.int .i64 Evt.zero.d) := (hb5.cell (by simp <;> omega)).trans (by go_simp)
  have c_a_5 : w5.cell? ⟨w4.heap.size, 5, none⟩ = some (.int .i64 Evt.zero.n) := (hb5.cell (by simp <;> omega)).trans (by go_simp)
  have c_a_6 : w5.cell? ⟨w4.heap.size, 6, none⟩ = some (.int .i64 Evt.zero.e) := (hb5.cell (by simp <;> omega)).trans (by go_simp)
  have c_a_7 : w5.cell? ⟨w4.heap.size, 7, none⟩ = some (.slice ra 0 fa) := (hb5.cell (by simp <;> omega)).trans (by go_simp)
  have c_a_8 : w5.cell? ⟨w4.heap.size, 8, none⟩ = some (.string Evt.zero.s) := (hb5.cell (by simp <;> omega)).trans (by go_simp)
  have z_a := World.block_lt_of_cell? _ _ c_a_0
  clear z_e
  have z_e := World.block_lt_of_cell? _ _ c_e_0
  have hB5 := below_two hB4 hs5
  clear hB4 hs5 hb5
  dsimp only at hev
  obtain ⟨pb, cb, e3, _⟩ := sl_shape hev.ps
  have e3 : vp = .slice pb 0 cb := e3
  obtain ⟨qb, db, e4, _⟩ := sl_shape hev.ts
  have e4 : vt = .slice qb 0 db := e4
  obtain ⟨rb, fb, e5, _⟩ := sl_shape hev.ms
  have e5 : vm = .slice rb 0 fb := e5
  subst e3 e4 e5
  have HVb := Lib.hid hev
  clear hev HEVS
  go_wp2_with fail
  have hs6 : Below w5.heap.size w5 (w5.alloc (.cells #[.int .i64 Evt.zero.k, .slice pb 0 cb, .slice qb 0 db, .int .i64 Evt.zero.b, .int .i64 Evt.zero.d, .int .i64 Evt.zero.n, .int .i64 Evt.zero.e, .slice rb 0 fb, .string Evt.zero.s] 28)) := by repeat (first | exact Below.refl _ _ | refine Below.alloc ?_ (by simp <;> omega) _)
  replace Hps := Lib.hid (Hps.out.later hs6)
  replace Hts := Lib.hid (Hts.out.later hs6)
  replace Hms := Lib.hid (Hms.out.later hs6)
  replace HVa := Lib.hid (HVa.out.later hs6)
  replace HVb := Lib.hid (HVb.out.later hs6)
  replace c_e_0 := cell_later hs6 c_e_0
  replace c_e_1 := cell_later hs6 c_e_1
  replace c_e_2 := cell_later hs6 c_e_2
  replace c_e_3 := cell_later hs6 c_e_3
  replace c_e_4 := cell_later hs6 c_e_4
  replace c_e_5 := cell_later hs6 c_e_5
  replace c_e_6 := cell_later hs6 c_e_6
  replace c_e_7 := cell_later hs6 c_e_7
  replace c_e_8 := cell_later hs6 c_e_8
  replace c_a_0 := cell_later hs6 c_a_0
  replace c_a_1 := cell_later hs6 c_a_1
  replace c_a_2 := cell_later hs6 c_a_2
  replace c_a_3 := cell_later hs6 c_a_3
  replace c_a_4 := cell_later hs6 c_a_4
  replace c_a_5 := cell_later hs6 c_a_5
  replace c_a_6 := cell_later hs6 c_a_6
  replace c_a_7 := cell_later hs6 c_a_7
  replace c_a_8 := cell_later hs6 c_a_8
  have c_b_0 : (w5.alloc (.cells #[.int .i64 Evt.zero.k, .slice pb 0 cb, .slice qb 0 db, .int .i64 Evt.zero.b, .int .i64 Evt.zero.d, .int .i64 Evt.zero.n, .int .i64 Evt.zero.e, .slice rb 0 fb, .string Evt.zero.s] 28)).cell? ⟨w5.heap.size, 0, none⟩ = some (.int .i64 Evt.zero.k) := by go_simp
  have c_b_1 : (w5.alloc (.cells #[.int .i64 Evt.zero.k, .slice pb 0 cb, .slice qb 0 db, .int .i64 Evt.zero.b, .int .i64 Evt.zero.d, .int .i64 Evt.zero.n, .int .i64 Evt.zero.e, .slice rb 0 fb, .string Evt.zero.s] 28)).cell? ⟨w5.heap.size, 1, none⟩ = some (.slice pb 0 cb) := by go_simp
  have c_b_2 : (w5.alloc (.cells #[.int .i64 Evt.zero.k, .slice pb 0 cb, .slice qb 0 db, .int .i64 Evt.zero.b, .int .i64 Evt.zero.d, .int .i64 Evt.zero.n, .int .i64 Evt.zero.e, .slice rb 0 fb, .string Evt.zero.s] 28)).cell? ⟨w5.heap.size, 2, none⟩ = some (.slice qb 0 db) := by go_simp
  have c_b_3 : (w5.alloc (.cells #[.int .i64 Evt.zero.k, .slice pb 0 cb, .slice qb 0 db, .int .i64 Evt.zero.b, .int .i64 Evt.zero.d, .int .i64 Evt.zero.n, .int .i64 Evt.zero.e, .slice rb 0 fb, .string Evt.zero.s] 28)).cell? ⟨w5.heap.size, 3, none⟩ = some (.int .i64 Evt.zero.b) := by go_simp
  have c_b_4 : (w5.alloc (.cells #[.int .i64 Evt.zero.k, .slice pb 0 cb, .slice qb 0 db, .int .i64 Evt.zero.b, .int .i64 Evt.zero.d, .int .i64 Evt.zero.n, .int .i64 Evt.zero.e, .slice rb 0 fb, .string Evt.zero.s] 28)).cell? ⟨w5.heap.size, 4, none⟩ = some (.int .i64 Evt.zero.d) := by go_simp
  have c_b_5 : (w5.alloc (.cells #[.int .i64 Evt.zero.k, .slice pb 0 cb, .slice qb 0 db, .int .i64 Evt.zero.b, .int .i64 Evt.zero.d, .int .i64 Evt.zero.n, .int .i64 Evt.zero.e, .slice rb 0 fb, .string Evt.zero.s] 28)).cell? ⟨w5.heap.size, 5, none⟩ = some (.int .i64 Evt.zero.n) := by go_simp
  have c_b_6 : (w5.alloc (.cells #[.int .i64 Evt.zero.k, .slice pb 0 cb, .slice qb 0 db, .int .i64 Evt.zero.b, .int .i64 Evt.zero.d, .int .i64 Evt.zero.n, .int .i64 Evt.zero.e, .slice rb 0 fb, .string Evt.zero.s] 28)).cell? ⟨w5.heap.size, 6, none⟩ = some (.int .i64 Evt.zero.e) := by go_simp
  have c_b_7 : (w5.alloc (.cells #[.int .i64 Evt.zero.k, .slice pb 0 cb, .slice qb 0 db, .int .i64 Evt.zero.b, .int .i64 Evt.zero.d, .int .i64 Evt.zero.n, .int .i64 Evt.zero.e, .slice rb 0 fb, .string Evt.zero.s] 28)).cell? ⟨w5.heap.size, 7, none⟩ = some (.slice rb 0 fb) := by go_simp
  have c_b_8 : (w5.alloc (.cells #[.int .i64 Evt.zero.k, .slice pb 0 cb, .slice qb 0 db, .int .i64 Evt.zero.b, .int .i64 Evt.zero.d, .int .i64 Evt.zero.n, .int .i64 Evt.zero.e, .slice rb 0 fb, .string Evt.zero.s] 28)).cell? ⟨w5.heap.size, 8, none⟩ = some (.string Evt.zero.s) := by go_simp
  have hB6 := below_two hB5 hs6
  clear hB5 hs6
  have y6_a := z_a
  have y6_e := z_e
  generalize (w5.alloc (.cells #[.int .i64 Evt.zero.k, .slice pb 0 cb, .slice qb 0 db, .int .i64 Evt.zero.b, .int .i64 Evt.zero.d, .int .i64 Evt.zero.n, .int .i64 Evt.zero.e, .slice rb 0 fb, .string Evt.zero.s] 28)) = w6 at *
  clear z_a
  have z_a := World.block_lt_of_cell? _ _ c_a_0
  have z_b := World.block_lt_of_cell? _ _ c_b_0
  clear z_e
  have z_e := World.block_lt_of_cell? _ _ c_e_0
  go_wp2_with fail
  have hR' := hR.below hB6
  refine (eright_is HRT.out _ _ _ _ ⟨Hps.out, Hts.out, Hms.out, hsz⟩ hR').mono ?_
  rintro e w7 ⟨rfl, hb7⟩
  clear hR'
  have hs7 := hb7
  replace Hps := Lib.hid (Hps.out.later hs7)
  replace Hts := Lib.hid (Hts.out.later hs7)
  replace Hms := Lib.hid (Hms.out.later hs7)
  replace HVa := Lib.hid (HVa.out.later hs7)
  replace HVb := Lib.hid (HVb.out.later hs7)
  replace c_e_0 := cell_later hs7 c_e_0
  replace c_e_1 := cell_later hs7 c_e_1
  replace c_e_2 := cell_later hs7 c_e_2
  replace c_e_3 := cell_later hs7 c_e_3
  replace c_e_4 := cell_later hs7 c_e_4
  replace c_e_5 := cell_later hs7 c_e_5
  replace c_e_6 := cell_later hs7 c_e_6
  replace c_e_7 := cell_later hs7 c_e_7
  replace c_e_8 := cell_later hs7 c_e_8
  replace c_a_0 := cell_later hs7 c_a_0
  replace c_a_1 := cell_later hs7 c_a_1
  replace c_a_2 := cell_later hs7 c_a_2
  replace c_a_3 := cell_later hs7 c_a_3
  replace c_a_4 := cell_later hs7 c_a_4
  replace c_a_5 := cell_later hs7 c_a_5
  replace c_a_6 := cell_later hs7 c_a_6
  replace c_a_7 := cell_later hs7 c_a_7
  replace c_a_8 := cell_later hs7 c_a_8
  replace c_b_0 := cell_later hs7 c_b_0
  replace c_b_1 := cell_later hs7 c_b_1
  replace c_b_2 := cell_later hs7 c_b_2
  replace c_b_3 := cell_later hs7 c_b_3
  replace c_b_4 := cell_later hs7 c_b_4
  replace c_b_5 := cell_later hs7 c_b_5
  replace c_b_6 := cell_later hs7 c_b_6
  replace c_b_7 := cell_later hs7 c_b_7
  replace c_b_8 := cell_later hs7 c_b_8
  clear z_a
  have z_a := World.block_lt_of_cell? _ _ c_a_0
  clear z_b
  have z_b := World.block_lt_of_cell? _ _ c_b_0
  clear z_e
  have z_e := World.block_lt_of_cell? _ _ c_e_0
  have hB7 := below_two hB6 hs7
  clear hB6 hs7
  go_wp2
  go_ret
  exact ⟨rfl, hB7⟩

theorem chordOne_any (x : Ev) (vp vt vm : Value) (w : World) (h : EvR w vp vt vm x) (hR : Ready w) : Calls Tryd.prog 9 #[evv x vp vt vm] w fun ed w' => ed = .returned (.bool true) ∧ Below w.heap.size w w' := by
  rcases hq : fewE x with _ | _
  · exact chordOne_few x vp vt vm w h hR hq
  · rcases hr : Evt.right x with _ | _
    · exact chordOne_wrong x vp vt vm w h hR hq hr
    · exact chordOne_right x vp vt vm w h hR hq hr
end Go.Proofs.YtoiankbopjaamaaDoor
