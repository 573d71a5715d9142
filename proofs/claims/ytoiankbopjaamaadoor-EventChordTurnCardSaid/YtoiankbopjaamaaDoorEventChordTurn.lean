/-
  EventChordTurn answers true: the law's walk.
-/
import Derived.Test.YtoiankbopjaamaaDoorEventChordOne
namespace Go.Proofs.YtoiankbopjaamaaDoor
open Go.RowKit
open Evt (P3 Ev)

set_option maxRecDepth 100000 in
set_option maxHeartbeats 40000000 in
theorem chordTurn_a (x y : Ev) (vp vt vm up ut um : Value) (w : World) (h : EvR w vp vt vm x) (h2 : EvR w up ut um y) (hR : Ready w) (hq : fewE x = false) :
    Calls Tryd.prog 10 #[evv x vp vt vm, evv y up ut um] w fun ed w' => ed = .returned (.bool true) ∧ Below w.heap.size w w' := by
  obtain ⟨k, ps, ts, b, d, n, e0, ms, str⟩ := x
  obtain ⟨hps, hts, hms, hsz⟩ := h
  obtain ⟨k2, qs, us, b2, d2, n2, e2, ns, str2⟩ := y
  obtain ⟨hqs, hus, hns, hsz2⟩ := h2
  dsimp only at hps hts hms hsz hqs hus hns hsz2 hq ⊢
  have Hps := Lib.hid hps
  obtain ⟨pps, cps, rfl, lps⟩ := sl_shape hps
  have Hts := Lib.hid hts
  obtain ⟨pts, cts, rfl, lts⟩ := sl_shape hts
  have Hms := Lib.hid hms
  obtain ⟨pms, cms, rfl, lms⟩ := sl_shape hms
  have Hqs := Lib.hid hqs
  obtain ⟨pqs, cqs, rfl, lqs⟩ := sl_shape hqs
  have Hus := Lib.hid hus
  obtain ⟨pus, cus, rfl, lus⟩ := sl_shape hus
  have Hns := Lib.hid hns
  obtain ⟨pns, cns, rfl, lns⟩ := sl_shape hns
  clear hps hts hms hqs hus hns
  have hB0 : Below w.heap.size w w := Below.refl _ _
  go_enter Tryd.func10, Tryd.ntmps10
  go_wp2_with fail
  have hR' := hR.below ((hB0.alloc hB0.size (.cells #[.int .i64 k, .slice pps ps.length cps, .slice pts ts.length cts, .int .i64 b, .int .i64 d, .int .i64 n, .int .i64 e0, .slice pms ms.length cms, .string str] 28)).alloc (hB0.alloc hB0.size (.cells #[.int .i64 k, .slice pps ps.length cps, .slice pts ts.length cts, .int .i64 b, .int .i64 d, .int .i64 n, .int .i64 e0, .slice pms ms.length cms, .string str] 28)).size (.cells #[.int .i64 k2, .slice pqs qs.length cqs, .slice pus us.length cus, .int .i64 b2, .int .i64 d2, .int .i64 n2, .int .i64 e2, .slice pns ns.length cns, .string str2] 28))
  refine (awake_any _ hR').mono ?_
  rintro e w1 ⟨rfl, hb1⟩
  clear hR'
  have hs1 : Below w.heap.size w w1 := Below.trans (by repeat (first | exact Below.refl _ _ | refine Below.alloc ?_ (by simp <;> omega) _)) (hb1.mono (by simp <;> omega))
  replace Hps := Lib.hid (Hps.out.later hs1)
  replace Hts := Lib.hid (Hts.out.later hs1)
  replace Hms := Lib.hid (Hms.out.later hs1)
  replace Hqs := Lib.hid (Hqs.out.later hs1)
  replace Hus := Lib.hid (Hus.out.later hs1)
  replace Hns := Lib.hid (Hns.out.later hs1)
  have c_e_0 : w1.cell? ⟨w.heap.size, 0, none⟩ = some (.int .i64 k) := (hb1.cell (by simp <;> omega)).trans (by go_simp)
  have c_e_1 : w1.cell? ⟨w.heap.size, 1, none⟩ = some (.slice pps ps.length cps) := (hb1.cell (by simp <;> omega)).trans (by go_simp)
  have c_e_2 : w1.cell? ⟨w.heap.size, 2, none⟩ = some (.slice pts ts.length cts) := (hb1.cell (by simp <;> omega)).trans (by go_simp)
  have c_e_3 : w1.cell? ⟨w.heap.size, 3, none⟩ = some (.int .i64 b) := (hb1.cell (by simp <;> omega)).trans (by go_simp)
  have c_e_4 : w1.cell? ⟨w.heap.size, 4, none⟩ = some (.int .i64 d) := (hb1.cell (by simp <;> omega)).trans (by go_simp)
  have c_e_5 : w1.cell? ⟨w.heap.size, 5, none⟩ = some (.int .i64 n) := (hb1.cell (by simp <;> omega)).trans (by go_simp)
  have c_e_6 : w1.cell? ⟨w.heap.size, 6, none⟩ = some (.int .i64 e0) := (hb1.cell (by simp <;> omega)).trans (by go_simp)
  have c_e_7 : w1.cell? ⟨w.heap.size, 7, none⟩ = some (.slice pms ms.length cms) := (hb1.cell (by simp <;> omega)).trans (by go_simp)
  have c_e_8 : w1.cell? ⟨w.heap.size, 8, none⟩ = some (.string str) := (hb1.cell (by simp <;> omega)).trans (by go_simp)
  have c_f_0 : w1.cell? ⟨w.heap.size + 1, 0, none⟩ = some (.int .i64 k2) := (hb1.cell (by simp <;> omega)).trans (by go_simp)
  have c_f_1 : w1.cell? ⟨w.heap.size + 1, 1, none⟩ = some (.slice pqs qs.length cqs) := (hb1.cell (by simp <;> omega)).trans (by go_simp)
  have c_f_2 : w1.cell? ⟨w.heap.size + 1, 2, none⟩ = some (.slice pus us.length cus) := (hb1.cell (by simp <;> omega)).trans (by go_simp)
  have c_f_3 : w1.cell? ⟨w.heap.size + 1, 3, none⟩ = some (.int .i64 b2) := (hb1.cell (by simp <;> omega)).trans (by go_simp)
  have c_f_4 : w1.cell? ⟨w.heap.size + 1, 4, none⟩ = some (.int .i64 d2) := (hb1.cell (by simp <;> omega)).trans (by go_simp)
  have c_f_5 : w1.cell? ⟨w.heap.size + 1, 5, none⟩ = some (.int .i64 n2) := (hb1.cell (by simp <;> omega)).trans (by go_simp)
  have c_f_6 : w1.cell? ⟨w.heap.size + 1, 6, none⟩ = some (.int .i64 e2) := (hb1.cell (by simp <;> omega)).trans (by go_simp)
  have c_f_7 : w1.cell? ⟨w.heap.size + 1, 7, none⟩ = some (.slice pns ns.length cns) := (hb1.cell (by simp <;> omega)).trans (by go_simp)
  have c_f_8 : w1.cell? ⟨w.heap.size + 1, 8, none⟩ = some (.string str2) := (hb1.cell (by simp <;> omega)).trans (by go_simp)
  have z_e := World.block_lt_of_cell? _ _ c_e_0
  have z_f := World.block_lt_of_cell? _ _ c_f_0
  have hB1 := below_two hB0 hs1
  clear hB0 hs1 hb1
  go_wp2_with fail
  have hs2 : Below w1.heap.size w1 w1 := by repeat (first | exact Below.refl _ _ | refine Below.alloc ?_ (by simp <;> omega) _)
  replace Hps := Lib.hid (Hps.out.later hs2)
  replace Hts := Lib.hid (Hts.out.later hs2)
  replace Hms := Lib.hid (Hms.out.later hs2)
  replace Hqs := Lib.hid (Hqs.out.later hs2)
  replace Hus := Lib.hid (Hus.out.later hs2)
  replace Hns := Lib.hid (Hns.out.later hs2)
  replace c_e_0 := cell_later hs2 c_e_0
  replace c_e_1 := cell_later hs2 c_e_1
  replace c_e_2 := cell_later hs2 c_e_2
  replace c_e_3 := cell_later hs2 c_e_3
  replace c_e_4 := cell_later hs2 c_e_4
  replace c_e_5 := cell_later hs2 c_e_5
  replace c_e_6 := cell_later hs2 c_e_6
  replace c_e_7 := cell_later hs2 c_e_7
  replace c_e_8 := cell_later hs2 c_e_8
  replace c_f_0 := cell_later hs2 c_f_0
  replace c_f_1 := cell_later hs2 c_f_1
  replace c_f_2 := cell_later hs2 c_f_2
  replace c_f_3 := cell_later hs2 c_f_3
  replace c_f_4 := cell_later hs2 c_f_4
  replace c_f_5 := cell_later hs2 c_f_5
  replace c_f_6 := cell_later hs2 c_f_6
  replace c_f_7 := cell_later hs2 c_f_7
  replace c_f_8 := cell_later hs2 c_f_8
  have hB2 := below_two hB1 hs2
  clear hB1 hs2
  have y2_e := z_e
  have y2_f := z_f
  generalize w1 = w2 at *
  clear z_e
  have z_e := World.block_lt_of_cell? _ _ c_e_0
  clear z_f
  have z_f := World.block_lt_of_cell? _ _ c_f_0
  have HQ := Lib.hid hq
  clear hq
  go_wp2_with fail
  have hR' := hR.below hB2
  refine (few_is HQ.out _ _ _ _ ⟨Hps.out.later (by repeat (first | exact Below.refl _ _ | refine Below.alloc ?_ (by simp <;> omega) _)), Hts.out.later (by repeat (first | exact Below.refl _ _ | refine Below.alloc ?_ (by simp <;> omega) _)), Hms.out.later (by repeat (first | exact Below.refl _ _ | refine Below.alloc ?_ (by simp <;> omega) _)), hsz⟩).mono ?_
  rintro e w3 ⟨rfl, hb3⟩
  clear hR'
  have hs3 := hb3
  replace Hps := Lib.hid (Hps.out.later hs3)
  replace Hts := Lib.hid (Hts.out.later hs3)
  replace Hms := Lib.hid (Hms.out.later hs3)
  replace Hqs := Lib.hid (Hqs.out.later hs3)
  replace Hus := Lib.hid (Hus.out.later hs3)
  replace Hns := Lib.hid (Hns.out.later hs3)
  replace c_e_0 := cell_later hs3 c_e_0
  replace c_e_1 := cell_later hs3 c_e_1
  replace c_e_2 := cell_later hs3 c_e_2
  replace c_e_3 := cell_later hs3 c_e_3
  replace c_e_4 := cell_later hs3 c_e_4
  replace c_e_5 := cell_later hs3 c_e_5
  replace c_e_6 := cell_later hs3 c_e_6
  replace c_e_7 := cell_later hs3 c_e_7
  replace c_e_8 := cell_later hs3 c_e_8
  replace c_f_0 := cell_later hs3 c_f_0
  replace c_f_1 := cell_later hs3 c_f_1
  replace c_f_2 := cell_later hs3 c_f_2
  replace c_f_3 := cell_later hs3 c_f_3
  replace c_f_4 := cell_later hs3 c_f_4
  replace c_f_5 := cell_later hs3 c_f_5
  replace c_f_6 := cell_later hs3 c_f_6
  replace c_f_7 := cell_later hs3 c_f_7
  replace c_f_8 := cell_later hs3 c_f_8
  clear z_e
  have z_e := World.block_lt_of_cell? _ _ c_e_0
  clear z_f
  have z_f := World.block_lt_of_cell? _ _ c_f_0
  have hB3 := below_two hB2 hs3
  clear hB2 hs3
  go_wp2
  go_ret
  exact ⟨rfl, hB3⟩

set_option maxRecDepth 100000 in
set_option maxHeartbeats 40000000 in
theorem chordTurn_b (x y : Ev) (vp vt vm up ut um : Value) (w : World) (h : EvR w vp vt vm x) (h2 : EvR w up ut um y) (hR : Ready w) (hq : fewE x = true) (hq2 : fewE y = false) :
    Calls Tryd.prog 10 #[evv x vp vt vm, evv y up ut um] w fun ed w' => ed = .returned (.bool true) ∧ Below w.heap.size w w' := by
  obtain ⟨k, ps, ts, b, d, n, e0, ms, str⟩ := x
  obtain ⟨hps, hts, hms, hsz⟩ := h
  obtain ⟨k2, qs, us, b2, d2, n2, e2, ns, str2⟩ := y
  obtain ⟨hqs, hus, hns, hsz2⟩ := h2
  dsimp only at hps hts hms hsz hqs hus hns hsz2 hq hq2 ⊢
  have Hps := Lib.hid hps
  obtain ⟨pps, cps, rfl, lps⟩ := sl_shape hps
  have Hts := Lib.hid hts
  obtain ⟨pts, cts, rfl, lts⟩ := sl_shape hts
  have Hms := Lib.hid hms
  obtain ⟨pms, cms, rfl, lms⟩ := sl_shape hms
  have Hqs := Lib.hid hqs
  obtain ⟨pqs, cqs, rfl, lqs⟩ := sl_shape hqs
  have Hus := Lib.hid hus
  obtain ⟨pus, cus, rfl, lus⟩ := sl_shape hus
  have Hns := Lib.hid hns
  obtain ⟨pns, cns, rfl, lns⟩ := sl_shape hns
  clear hps hts hms hqs hus hns
  have hB0 : Below w.heap.size w w := Below.refl _ _
  go_enter Tryd.func10, Tryd.ntmps10
  go_wp2_with fail
  have hR' := hR.below ((hB0.alloc hB0.size (.cells #[.int .i64 k, .slice pps ps.length cps, .slice pts ts.length cts, .int .i64 b, .int .i64 d, .int .i64 n, .int .i64 e0, .slice pms ms.length cms, .string str] 28)).alloc (hB0.alloc hB0.size (.cells #[.int .i64 k, .slice pps ps.length cps, .slice pts ts.length cts, .int .i64 b, .int .i64 d, .int .i64 n, .int .i64 e0, .slice pms ms.length cms, .string str] 28)).size (.cells #[.int .i64 k2, .slice pqs qs.length cqs, .slice pus us.length cus, .int .i64 b2, .int .i64 d2, .int .i64 n2, .int .i64 e2, .slice pns ns.length cns, .string str2] 28))
  refine (awake_any _ hR').mono ?_
  rintro e w1 ⟨rfl, hb1⟩
  clear hR'
  have hs1 : Below w.heap.size w w1 := Below.trans (by repeat (first | exact Below.refl _ _ | refine Below.alloc ?_ (by simp <;> omega) _)) (hb1.mono (by simp <;> omega))
  replace Hps := Lib.hid (Hps.out.later hs1)
  replace Hts := Lib.hid (Hts.out.later hs1)
  replace Hms := Lib.hid (Hms.out.later hs1)
  replace Hqs := Lib.hid (Hqs.out.later hs1)
  replace Hus := Lib.hid (Hus.out.later hs1)
  replace Hns := Lib.hid (Hns.out.later hs1)
  have c_e_0 : w1.cell? ⟨w.heap.size, 0, none⟩ = some (.int .i64 k) := (hb1.cell (by simp <;> omega)).trans (by go_simp)
  have c_e_1 : w1.cell? ⟨w.heap.size, 1, none⟩ = some (.slice pps ps.length cps) := (hb1.cell (by simp <;> omega)).trans (by go_simp)
  have c_e_2 : w1.cell? ⟨w.heap.size, 2, none⟩ = some (.slice pts ts.length cts) := (hb1.cell (by simp <;> omega)).trans (by go_simp)
  have c_e_3 : w1.cell? ⟨w.heap.size, 3, none⟩ = some (.int .i64 b) := (hb1.cell (by simp <;> omega)).trans (by go_simp)
  have c_e_4 : w1.cell? ⟨w.heap.size, 4, none⟩ = some (.int .i64 d) := (hb1.cell (by simp <;> omega)).trans (by go_simp)
  have c_e_5 : w1.cell? ⟨w.heap.size, 5, none⟩ = some (.int .i64 n) := (hb1.cell (by simp <;> omega)).trans (by go_simp)
  have c_e_6 : w1.cell? ⟨w.heap.size, 6, none⟩ = some (.int .i64 e0) := (hb1.cell (by simp <;> omega)).trans (by go_simp)
  have c_e_7 : w1.cell? ⟨w.heap.size, 7, none⟩ = some (.slice pms ms.length cms) := (hb1.cell (by simp <;> omega)).trans (by go_simp)
  have c_e_8 : w1.cell? ⟨w.heap.size, 8, none⟩ = some (.string str) := (hb1.cell (by simp <;> omega)).trans (by go_simp)
  have c_f_0 : w1.cell? ⟨w.heap.size + 1, 0, none⟩ = some (.int .i64 k2) := (hb1.cell (by simp <;> omega)).trans (by go_simp)
  have c_f_1 : w1.cell? ⟨w.heap.size + 1, 1, none⟩ = some (.slice pqs qs.length cqs) := (hb1.cell (by simp <;> omega)).trans (by go_simp)
  have c_f_2 : w1.cell? ⟨w.heap.size + 1, 2, none⟩ = some (.slice pus us.length cus) := (hb1.cell (by simp <;> omega)).trans (by go_simp)
  have c_f_3 : w1.cell? ⟨w.heap.size + 1, 3, none⟩ = some (.int .i64 b2) := (hb1.cell (by simp <;> omega)).trans (by go_simp)
  have c_f_4 : w1.cell? ⟨w.heap.size + 1, 4, none⟩ = some (.int .i64 d2) := (hb1.cell (by simp <;> omega)).trans (by go_simp)
  have c_f_5 : w1.cell? ⟨w.heap.size + 1, 5, none⟩ = some (.int .i64 n2) := (hb1.cell (by simp <;> omega)).trans (by go_simp)
  have c_f_6 : w1.cell? ⟨w.heap.size + 1, 6, none⟩ = some (.int .i64 e2) := (hb1.cell (by simp <;> omega)).trans (by go_simp)
  have c_f_7 : w1.cell? ⟨w.heap.size + 1, 7, none⟩ = some (.slice pns ns.length cns) := (hb1.cell (by simp <;> omega)).trans (by go_simp)
  have c_f_8 : w1.cell? ⟨w.heap.size + 1, 8, none⟩ = some (.string str2) := (hb1.cell (by simp <;> omega)).trans (by go_simp)
  have z_e := World.block_lt_of_cell? _ _ c_e_0
  have z_f := World.block_lt_of_cell? _ _ c_f_0
  have hB1 := below_two hB0 hs1
  clear hB0 hs1 hb1
  go_wp2_with fail
  have hs2 : Below w1.heap.size w1 w1 := by repeat (first | exact Below.refl _ _ | refine Below.alloc ?_ (by simp <;> omega) _)
  replace Hps := Lib.hid (Hps.out.later hs2)
  replace Hts := Lib.hid (Hts.out.later hs2)
  replace Hms := Lib.hid (Hms.out.later hs2)
  replace Hqs := Lib.hid (Hqs.out.later hs2)
  replace Hus := Lib.hid (Hus.out.later hs2)
  replace Hns := Lib.hid (Hns.out.later hs2)
  replace c_e_0 := cell_later hs2 c_e_0
  replace c_e_1 := cell_later hs2 c_e_1
  replace c_e_2 := cell_later hs2 c_e_2
  replace c_e_3 := cell_later hs2 c_e_3
  replace c_e_4 := cell_later hs2 c_e_4
  replace c_e_5 := cell_later hs2 c_e_5
  replace c_e_6 := cell_later hs2 c_e_6
  replace c_e_7 := cell_later hs2 c_e_7
  replace c_e_8 := cell_later hs2 c_e_8
  replace c_f_0 := cell_later hs2 c_f_0
  replace c_f_1 := cell_later hs2 c_f_1
  replace c_f_2 := cell_later hs2 c_f_2
  replace c_f_3 := cell_later hs2 c_f_3
  replace c_f_4 := cell_later hs2 c_f_4
  replace c_f_5 := cell_later hs2 c_f_5
  replace c_f_6 := cell_later hs2 c_f_6
  replace c_f_7 := cell_later hs2 c_f_7
  replace c_f_8 := cell_later hs2 c_f_8
  have hB2 := below_two hB1 hs2
  clear hB1 hs2
  have y2_e := z_e
  have y2_f := z_f
  generalize w1 = w2 at *
  clear z_e
  have z_e := World.block_lt_of_cell? _ _ c_e_0
  clear z_f
  have z_f := World.block_lt_of_cell? _ _ c_f_0
  have HQ := Lib.hid hq
  have HQ2 := Lib.hid hq2
  clear hq hq2
  go_wp2_with fail
  have hR' := hR.below hB2
  refine (few_is HQ.out _ _ _ _ ⟨Hps.out.later (by repeat (first | exact Below.refl _ _ | refine Below.alloc ?_ (by simp <;> omega) _)), Hts.out.later (by repeat (first | exact Below.refl _ _ | refine Below.alloc ?_ (by simp <;> omega) _)), Hms.out.later (by repeat (first | exact Below.refl _ _ | refine Below.alloc ?_ (by simp <;> omega) _)), hsz⟩).mono ?_
  rintro e w3 ⟨rfl, hb3⟩
  clear hR'
  have hs3 := hb3
  replace Hps := Lib.hid (Hps.out.later hs3)
  replace Hts := Lib.hid (Hts.out.later hs3)
  replace Hms := Lib.hid (Hms.out.later hs3)
  replace Hqs := Lib.hid (Hqs.out.later hs3)
  replace Hus := Lib.hid (Hus.out.later hs3)
  replace Hns := Lib.hid (Hns.out.later hs3)
  replace c_e_0 := cell_later hs3 c_e_0
  replace c_e_1 := cell_later hs3 c_e_1
  replace c_e_2 := cell_later hs3 c_e_2
  replace c_e_3 := cell_later hs3 c_e_3
  replace c_e_4 := cell_later hs3 c_e_4
  replace c_e_5 := cell_later hs3 c_e_5
  replace c_e_6 := cell_later hs3 c_e_6
  replace c_e_7 := cell_later hs3 c_e_7
  replace c_e_8 := cell_later hs3 c_e_8
  replace c_f_0 := cell_later hs3 c_f_0
  replace c_f_1 := cell_later hs3 c_f_1
  replace c_f_2 := cell_later hs3 c_f_2
  replace c_f_3 := cell_later hs3 c_f_3
  replace c_f_4 := cell_later hs3 c_f_4
  replace c_f_5 := cell_later hs3 c_f_5
  replace c_f_6 := cell_later hs3 c_f_6
  replace c_f_7 := cell_later hs3 c_f_7
  replace c_f_8 := cell_later hs3 c_f_8
  clear z_e
  have z_e := World.block_lt_of_cell? _ _ c_e_0
  clear z_f
  have z_f := World.block_lt_of_cell? _ _ c_f_0
  have hB3 := below_two hB2 hs3
  clear hB2 hs3
  go_wp2_with fail
  have hR' := hR.below hB3
  refine (few_is HQ2.out _ _ _ _ ⟨Hqs.out.later (by repeat (first | exact Below.refl _ _ | refine Below.alloc ?_ (by simp <;> omega) _)), Hus.out.later (by repeat (first | exact Below.refl _ _ | refine Below.alloc ?_ (by simp <;> omega) _)), Hns.out.later (by repeat (first | exact Below.refl _ _ | refine Below.alloc ?_ (by simp <;> omega) _)), hsz2⟩).mono ?_
  rintro e w4 ⟨rfl, hb4⟩
  clear hR'
  have hs4 := hb4
  replace Hps := Lib.hid (Hps.out.later hs4)
  replace Hts := Lib.hid (Hts.out.later hs4)
  replace Hms := Lib.hid (Hms.out.later hs4)
  replace Hqs := Lib.hid (Hqs.out.later hs4)
  replace Hus := Lib.hid (Hus.out.later hs4)
  replace Hns := Lib.hid (Hns.out.later hs4)
  replace c_e_0 := cell_later hs4 c_e_0
  replace c_e_1 := cell_later hs4 c_e_1
  replace c_e_2 := cell_later hs4 c_e_2
  replace c_e_3 := cell_later hs4 c_e_3
  replace c_e_4 := cell_later hs4 c_e_4
  replace c_e_5 := cell_later hs4 c_e_5
  replace c_e_6 := cell_later hs4 c_e_6
  replace c_e_7 := cell_later hs4 c_e_7
  replace c_e_8 := cell_later hs4 c_e_8
  replace c_f_0 := cell_later hs4 c_f_0
  replace c_f_1 := cell_later hs4 c_f_1
  replace c_f_2 := cell_later hs4 c_f_2
  replace c_f_3 := cell_later hs4 c_f_3
  replace c_f_4 := cell_later hs4 c_f_4
  replace c_f_5 := cell_later hs4 c_f_5
  replace c_f_6 := cell_later hs4 c_f_6
  replace c_f_7 := cell_later hs4 c_f_7
  replace c_f_8 := cell_later hs4 c_f_8
  clear z_e
  have z_e := World.block_lt_of_cell? _ _ c_e_0
  clear z_f
  have z_f := World.block_lt_of_cell? _ _ c_f_0
  have hB4 := below_two hB3 hs4
  clear hB3 hs4
  go_wp2
  go_ret
  exact ⟨rfl, hB4⟩

set_option maxRecDepth 100000 in
set_option maxHeartbeats 40000000 in
theorem chordTurn_c (x y : Ev) (vp vt vm up ut um : Value) (w : World) (h : EvR w vp vt vm x) (h2 : EvR w up ut um y) (hR : Ready w) (hq : fewE x = true) (hq2 : fewE y = true) (X Y : Ev) (er : Int) (hx : Evt.chordE [x, y] = (X, er)) (hy : Evt.chordE [y, x] = (Y, er)) (hxy : sameE X { Y with s := X.s } = true) :
    Calls Tryd.prog 10 #[evv x vp vt vm, evv y up ut um] w fun ed w' => ed = .returned (.bool true) ∧ Below w.heap.size w w' := by
  obtain ⟨k, ps, ts, b, d, n, e0, ms, str⟩ := x
  obtain ⟨hps, hts, hms, hsz⟩ := h
  obtain ⟨k2, qs, us, b2, d2, n2, e2, ns, str2⟩ := y
  obtain ⟨hqs, hus, hns, hsz2⟩ := h2
  dsimp only at hps hts hms hsz hqs hus hns hsz2 hq hq2 hx hy ⊢
  have Hps := Lib.hid hps
  obtain ⟨pps, cps, rfl, lps⟩ := sl_shape hps
  have Hts := Lib.hid hts
  obtain ⟨pts, cts, rfl, lts⟩ := sl_shape hts
  have Hms := Lib.hid hms
  obtain ⟨pms, cms, rfl, lms⟩ := sl_shape hms
  have Hqs := Lib.hid hqs
  obtain ⟨pqs, cqs, rfl, lqs⟩ := sl_shape hqs
  have Hus := Lib.hid hus
  obtain ⟨pus, cus, rfl, lus⟩ := sl_shape hus
  have Hns := Lib.hid hns
  obtain ⟨pns, cns, rfl, lns⟩ := sl_shape hns
  clear hps hts hms hqs hus hns
  have hB0 : Below w.heap.size w w := Below.refl _ _
  go_enter Tryd.func10, Tryd.ntmps10
  go_wp2_with fail
  have hR' := hR.below ((hB0.alloc hB0.size (.cells #[.int .i64 k, .slice pps ps.length cps, .slice pts ts.length cts, .int .i64 b, .int .i64 d, .int .i64 n, .int .i64 e0, .slice pms ms.length cms, .string str] 28)).alloc (hB0.alloc hB0.size (.cells #[.int .i64 k, .slice pps ps.length cps, .slice pts ts.length cts, .int .i64 b, .int .i64 d, .int .i64 n, .int .i64 e0, .slice pms ms.length cms, .string str] 28)).size (.cells #[.int .i64 k2, .slice pqs qs.length cqs, .slice pus us.length cus, .int .i64 b2, .int .i64 d2, .int .i64 n2, .int .i64 e2, .slice pns ns.length cns, .string str2] 28))
  refine (awake_any _ hR').mono ?_
  rintro e w1 ⟨rfl, hb1⟩
  clear hR'
  have hs1 : Below w.heap.size w w1 := Below.trans (by repeat (first | exact Below.refl _ _ | refine Below.alloc ?_ (by simp <;> omega) _)) (hb1.mono (by simp <;> omega))
  replace Hps := Lib.hid (Hps.out.later hs1)
  replace Hts := Lib.hid (Hts.out.later hs1)
  replace Hms := Lib.hid (Hms.out.later hs1)
  replace Hqs := Lib.hid (Hqs.out.later hs1)
  replace Hus := Lib.hid (Hus.out.later hs1)
  replace Hns := Lib.hid (Hns.out.later hs1)
  have c_e_0 : w1.cell? ⟨w.heap.size, 0, none⟩ = some (.int .i64 k) := (hb1.cell (by simp <;> omega)).trans (by go_simp)
  have c_e_1 : w1.cell? ⟨w.heap.size, 1, none⟩ = some (.slice pps ps.length cps) := (hb1.cell (by simp <;> omega)).trans (by go_simp)
  have c_e_2 : w1.cell? ⟨w.heap.size, 2, none⟩ = some (.slice pts ts.length cts) := (hb1.cell (by simp <;> omega)).trans (by go_simp)
  have c_e_3 : w1.cell? ⟨w.heap.size, 3, none⟩ = some (.int .i64 b) := (hb1.cell (by simp <;> omega)).trans (by go_simp)
  have c_e_4 : w1.cell? ⟨w.heap.size, 4, none⟩ = some (.int .i64 d) := (hb1.cell (by simp <;> omega)).trans (by go_simp)
  have c_e_5 : w1.cell? ⟨w.heap.size, 5, none⟩ = some (.int .i64 n) := (hb1.cell (by simp <;> omega)).trans (by go_simp)
  have c_e_6 : w1.cell? ⟨w.heap.size, 6, none⟩ = some (.int .i64 e0) := (hb1.cell (by simp <;> omega)).trans (by go_simp)
  have c_e_7 : w1.cell? ⟨w.heap.size, 7, none⟩ = some (.slice pms ms.length cms) := (hb1.cell (by simp <;> omega)).trans (by go_simp)
  have c_e_8 : w1.cell? ⟨w.heap.size, 8, none⟩ = some (.string str) := (hb1.cell (by simp <;> omega)).trans (by go_simp)
  have c_f_0 : w1.cell? ⟨w.heap.size + 1, 0, none⟩ = some (.int .i64 k2) := (hb1.cell (by simp <;> omega)).trans (by go_simp)
  have c_f_1 : w1.cell? ⟨w.heap.size + 1, 1, none⟩ = some (.slice pqs qs.length cqs) := (hb1.cell (by simp <;> omega)).trans (by go_simp)
  have c_f_2 : w1.cell? ⟨w.heap.size + 1, 2, none⟩ = some (.slice pus us.length cus) := (hb1.cell (by simp <;> omega)).trans (by go_simp)
  have c_f_3 : w1.cell? ⟨w.heap.size + 1, 3, none⟩ = some (.int .i64 b2) := (hb1.cell (by simp <;> omega)).trans (by go_simp)
  have c_f_4 : w1.cell? ⟨w.heap.size + 1, 4, none⟩ = some (.int .i64 d2) := (hb1.cell (by simp <;> omega)).trans (by go_simp)
  have c_f_5 : w1.cell? ⟨w.heap.size + 1, 5, none⟩ = some (.int .i64 n2) := (hb1.cell (by simp <;> omega)).trans (by go_simp)
  have c_f_6 : w1.cell? ⟨w.heap.size + 1, 6, none⟩ = some (.int .i64 e2) := (hb1.cell (by simp <;> omega)).trans (by go_simp)
  have c_f_7 : w1.cell? ⟨w.heap.size + 1, 7, none⟩ = some (.slice pns ns.length cns) := (hb1.cell (by simp <;> omega)).trans (by go_simp)
  have c_f_8 : w1.cell? ⟨w.heap.size + 1, 8, none⟩ = some (.string str2) := (hb1.cell (by simp <;> omega)).trans (by go_simp)
  have z_e := World.block_lt_of_cell? _ _ c_e_0
  have z_f := World.block_lt_of_cell? _ _ c_f_0
  have hB1 := below_two hB0 hs1
  clear hB0 hs1 hb1
  go_wp2_with fail
  have hs2 : Below w1.heap.size w1 w1 := by repeat (first | exact Below.refl _ _ | refine Below.alloc ?_ (by simp <;> omega) _)
  replace Hps := Lib.hid (Hps.out.later hs2)
  replace Hts := Lib.hid (Hts.out.later hs2)
  replace Hms := Lib.hid (Hms.out.later hs2)
  replace Hqs := Lib.hid (Hqs.out.later hs2)
  replace Hus := Lib.hid (Hus.out.later hs2)
  replace Hns := Lib.hid (Hns.out.later hs2)
  replace c_e_0 := cell_later hs2 c_e_0
  replace c_e_1 := cell_later hs2 c_e_1
  replace c_e_2 := cell_later hs2 c_e_2
  replace c_e_3 := cell_later hs2 c_e_3
  replace c_e_4 := cell_later hs2 c_e_4
  replace c_e_5 := cell_later hs2 c_e_5
  replace c_e_6 := cell_later hs2 c_e_6
  replace c_e_7 := cell_later hs2 c_e_7
  replace c_e_8 := cell_later hs2 c_e_8
  replace c_f_0 := cell_later hs2 c_f_0
  replace c_f_1 := cell_later hs2 c_f_1
  replace c_f_2 := cell_later hs2 c_f_2
  replace c_f_3 := cell_later hs2 c_f_3
  replace c_f_4 := cell_later hs2 c_f_4
  replace c_f_5 := cell_later hs2 c_f_5
  replace c_f_6 := cell_later hs2 c_f_6
  replace c_f_7 := cell_later hs2 c_f_7
  replace c_f_8 := cell_later hs2 c_f_8
  have hB2 := below_two hB1 hs2
  clear hB1 hs2
  have y2_e := z_e
  have y2_f := z_f
  generalize w1 = w2 at *
  clear z_e
  have z_e := World.block_lt_of_cell? _ _ c_e_0
  clear z_f
  have z_f := World.block_lt_of_cell? _ _ c_f_0
  have HQ := Lib.hid hq
  have HQ2 := Lib.hid hq2
  have HCa := Lib.hid hx
  have HCb := Lib.hid hy
  have HXY := Lib.hid hxy
  clear hq hq2 hx hy hxy
  go_wp2_with fail
  have hR' := hR.below hB2
  refine (few_is HQ.out _ _ _ _ ⟨Hps.out.later (by repeat (first | exact Below.refl _ _ | refine Below.alloc ?_ (by simp <;> omega) _)), Hts.out.later (by repeat (first | exact Below.refl _ _ | refine Below.alloc ?_ (by simp <;> omega) _)), Hms.out.later (by repeat (first | exact Below.refl _ _ | refine Below.alloc ?_ (by simp <;> omega) _)), hsz⟩).mono ?_
  rintro e w3 ⟨rfl, hb3⟩
  clear hR'
  have hs3 := hb3
  replace Hps := Lib.hid (Hps.out.later hs3)
  replace Hts := Lib.hid (Hts.out.later hs3)
  replace Hms := Lib.hid (Hms.out.later hs3)
  replace Hqs := Lib.hid (Hqs.out.later hs3)
  replace Hus := Lib.hid (Hus.out.later hs3)
  replace Hns := Lib.hid (Hns.out.later hs3)
  replace c_e_0 := cell_later hs3 c_e_0
  replace c_e_1 := cell_later hs3 c_e_1
  replace c_e_2 := cell_later hs3 c_e_2
  replace c_e_3 := cell_later hs3 c_e_3
  replace c_e_4 := cell_later hs3 c_e_4
  replace c_e_5 := cell_later hs3 c_e_5
  replace c_e_6 := cell_later hs3 c_e_6
  replace c_e_7 := cell_later hs3 c_e_7
  replace c_e_8 := cell_later hs3 c_e_8
  replace c_f_0 := cell_later hs3 c_f_0
  replace c_f_1 := cell_later hs3 c_f_1
  replace c_f_2 := cell_later hs3 c_f_2
  replace c_f_3 := cell_later hs3 c_f_3
  replace c_f_4 := cell_later hs3 c_f_4
  replace c_f_5 := cell_later hs3 c_f_5
  replace c_f_6 := cell_later hs3 c_f_6
  replace c_f_7 := cell_later hs3 c_f_7
  replace c_f_8 := cell_later hs3 c_f_8
  clear z_e
  have z_e := World.block_lt_of_cell? _ _ c_e_0
  clear z_f
  have z_f := World.block_lt_of_cell? _ _ c_f_0
  have hB3 := below_two hB2 hs3
  clear hB2 hs3
  go_wp2_with fail
  have hR' := hR.below hB3
  refine (few_is HQ2.out _ _ _ _ ⟨Hqs.out.later (by repeat (first | exact Below.refl _ _ | refine Below.alloc ?_ (by simp <;> omega) _)), Hus.out.later (by repeat (first | exact Below.refl _ _ | refine Below.alloc ?_ (by simp <;> omega) _)), Hns.out.later (by repeat (first | exact Below.refl _ _ | refine Below.alloc ?_ (by simp <;> omega) _)), hsz2⟩).mono ?_
  rintro e w4 ⟨rfl, hb4⟩
  clear hR'
  have hs4 := hb4
  replace Hps := Lib.hid (Hps.out.later hs4)
  replace Hts := Lib.hid (Hts.out.later hs4)
  replace Hms := Lib.hid (Hms.out.later hs4)
  replace Hqs := Lib.hid (Hqs.out.later hs4)
  replace Hus := Lib.hid (Hus.out.later hs4)
  replace Hns := Lib.hid (Hns.out.later hs4)
  replace c_e_0 := cell_later hs4 c_e_0
  replace c_e_1 := cell_later hs4 c_e_1
  replace c_e_2 := cell_later hs4 c_e_2
  replace c_e_3 := cell_later hs4 c_e_3
  replace c_e_4 := cell_later hs4 c_e_4
  replace c_e_5 := cell_later hs4 c_e_5
  replace c_e_6 := cell_later hs4 c_e_6
  replace c_e_7 := cell_later hs4 c_e_7
  replace c_e_8 := cell_later hs4 c_e_8
  replace c_f_0 := cell_later hs4 c_f_0
  replace c_f_1 := cell_later hs4 c_f_1
  replace c_f_2 := cell_later hs4 c_f_2
  replace c_f_3 := cell_later hs4 c_f_3
  replace c_f_4 := cell_later hs4 c_f_4
  replace c_f_5 := cell_later hs4 c_f_5
  replace c_f_6 := cell_later hs4 c_f_6
  replace c_f_7 := cell_later hs4 c_f_7
  replace c_f_8 := cell_later hs4 c_f_8
  clear z_e
  have z_e := World.block_lt_of_cell? _ _ c_e_0
  clear z_f
  have z_f := World.block_lt_of_cell? _ _ c_f_0
  have hB4 := below_two hB3 hs4
  clear hB3 hs4
  go_wp2_with fail
  have hR' := hR.below (hB4.alloc hB4.size (.cells #[.int .i64 k, .slice pps ps.length cps, .slice pts ts.length cts, .int .i64 b, .int .i64 d, .int .i64 n, .int .i64 e0, .slice pms ms.length cms, .string str, .int .i64 k2, .slice pqs qs.length cqs, .slice pus us.length cus, .int .i64 b2, .int .i64 d2, .int .i64 n2, .int .i64 e2, .slice pns ns.length cns, .string str2] 28))
  have HEVS : Evs (w4.alloc (.cells #[.int .i64 k, .slice pps ps.length cps, .slice pts ts.length cts, .int .i64 b, .int .i64 d, .int .i64 n, .int .i64 e0, .slice pms ms.length cms, .string str, .int .i64 k2, .slice pqs qs.length cqs, .slice pus us.length cus, .int .i64 b2, .int .i64 d2, .int .i64 n2, .int .i64 e2, .slice pns ns.length cns, .string str2] 28)) (.slice (some ⟨w4.heap.size, 0, none⟩) 2 2) [((⟨k, ps, ts, b, d, n, e0, ms, str⟩, .slice pps ps.length cps, .slice pts ts.length cts, .slice pms ms.length cms) : EM), ((⟨k2, qs, us, b2, d2, n2, e2, ns, str2⟩, .slice pqs qs.length cqs, .slice pus us.length cus, .slice pns ns.length cns) : EM)] := evs_new2 (w := w4) (ys := [((⟨k, ps, ts, b, d, n, e0, ms, str⟩, .slice pps ps.length cps, .slice pts ts.length cts, .slice pms ms.length cms) : EM), ((⟨k2, qs, us, b2, d2, n2, e2, ns, str2⟩, .slice pqs qs.length cqs, .slice pus us.length cus, .slice pns ns.length cns) : EM)]) (by simp) (by simp) (fun z hz => by
    rcases List.mem_cons.1 hz with rfl | hz
    · exact ⟨Hps.out, Hts.out, Hms.out, hsz⟩
    · rcases List.mem_cons.1 hz with rfl | hz
      · exact ⟨Hqs.out, Hus.out, Hns.out, hsz2⟩
      · cases hz)
  refine (chord_is (ys := [((⟨k, ps, ts, b, d, n, e0, ms, str⟩, .slice pps ps.length cps, .slice pts ts.length cts, .slice pms ms.length cms) : EM), ((⟨k2, qs, us, b2, d2, n2, e2, ns, str2⟩, .slice pqs qs.length cqs, .slice pus us.length cus, .slice pns ns.length cns) : EM)]) HCa.out _ _ HEVS (by simp) hR').mono ?_
  rintro e w5 ⟨vp, vt, vm, rfl, hev, hb5⟩
  clear hR'
  have hs5 : Below w4.heap.size w4 w5 := Below.trans (by repeat (first | exact Below.refl _ _ | refine Below.alloc ?_ (by simp <;> omega) _)) (hb5.mono (by simp <;> omega))
  replace Hps := Lib.hid (Hps.out.later hs5)
  replace Hts := Lib.hid (Hts.out.later hs5)
  replace Hms := Lib.hid (Hms.out.later hs5)
  replace Hqs := Lib.hid (Hqs.out.later hs5)
  replace Hus := Lib.hid (Hus.out.later hs5)
  replace Hns := Lib.hid (Hns.out.later hs5)
  replace c_e_0 := cell_later hs5 c_e_0
  replace c_e_1 := cell_later hs5 c_e_1
  replace c_e_2 := cell_later hs5 c_e_2
  replace c_e_3 := cell_later hs5 c_e_3
  replace c_e_4 := cell_later hs5 c_e_4
  replace c_e_5 := cell_later hs5 c_e_5
  replace c_e_6 := cell_later hs5 c_e_6
  replace c_e_7 := cell_later hs5 c_e_7
  replace c_e_8 := cell_later hs5 c_e_8
  replace c_f_0 := cell_later hs5 c_f_0
  replace c_f_1 := cell_later hs5 c_f_1
  replace c_f_2 := cell_later hs5 c_f_2
  replace c_f_3 := cell_later hs5 c_f_3
  replace c_f_4 := cell_later hs5 c_f_4
  replace c_f_5 := cell_later hs5 c_f_5
  replace c_f_6 := cell_later hs5 c_f_6
  replace c_f_7 := cell_later hs5 c_f_7
  replace c_f_8 := cell_later hs5 c_f_8
  clear z_e
  have z_e := World.block_lt_of_cell? _ _ c_e_0
  clear z_f
  have z_f := World.block_lt_of_cell? _ _ c_f_0
  have hB5 := below_two hB4 hs5
  clear hB4 hs5 hb5
  dsimp only at hev
  obtain ⟨pa, ca, e3, _⟩ := sl_shape hev.ps
  obtain ⟨qa, da, e4, _⟩ := sl_shape hev.ts
  obtain ⟨ra, fa, e5, _⟩ := sl_shape hev.ms
  subst e3 e4 e5
  have HVa := Lib.hid hev
  clear hev HEVS
  go_wp2_with fail
  have hR' := hR.below ((hB5.alloc hB5.size (.cells #[.int .i64 X.k, .slice pa X.ps.length ca, .slice qa X.ts.length da, .int .i64 X.b, .int .i64 X.d, .int .i64 X.n, .int .i64 X.e, .slice ra X.ms.length fa, .string X.s] 28)).alloc (hB5.alloc hB5.size (.cells #[.int .i64 X.k, .slice pa X.ps.length ca, .slice qa X.ts.length da, .int .i64 X.b, .int .i64 X.d, .int .i64 X.n, .int .i64 X.e, .slice ra X.ms.length fa, .string X.s] 28)).size (.cells #[.int .i64 k2, .slice pqs qs.length cqs, .slice pus us.length cus, .int .i64 b2, .int .i64 d2, .int .i64 n2, .int .i64 e2, .slice pns ns.length cns, .string str2, .int .i64 k, .slice pps ps.length cps, .slice pts ts.length cts, .int .i64 b, .int .i64 d, .int .i64 n, .int .i64 e0, .slice pms ms.length cms, .string str] 28))
  have HEVS : Evs ((w5.alloc (.cells #[.int .i64 X.k, .slice pa X.ps.length ca, .slice qa X.ts.length da, .int .i64 X.b, .int .i64 X.d, .int .i64 X.n, .int .i64 X.e, .slice ra X.ms.length fa, .string X.s] 28)).alloc (.cells #[.int .i64 k2, .slice pqs qs.length cqs, .slice pus us.length cus, .int .i64 b2, .int .i64 d2, .int .i64 n2, .int .i64 e2, .slice pns ns.length cns, .string str2, .int .i64 k, .slice pps ps.length cps, .slice pts ts.length cts, .int .i64 b, .int .i64 d, .int .i64 n, .int .i64 e0, .slice pms ms.length cms, .string str] 28)) (.slice (some ⟨w5.heap.size + 1, 0, none⟩) 2 2) [((⟨k2, qs, us, b2, d2, n2, e2, ns, str2⟩, .slice pqs qs.length cqs, .slice pus us.length cus, .slice pns ns.length cns) : EM), ((⟨k, ps, ts, b, d, n, e0, ms, str⟩, .slice pps ps.length cps, .slice pts ts.length cts, .slice pms ms.length cms) : EM)] := evs_new2 (w := (w5.alloc (.cells #[.int .i64 X.k, .slice pa X.ps.length ca, .slice qa X.ts.length da, .int .i64 X.b, .int .i64 X.d, .int .i64 X.n, .int .i64 X.e, .slice ra X.ms.length fa, .string X.s] 28))) (ys := [((⟨k2, qs, us, b2, d2, n2, e2, ns, str2⟩, .slice pqs qs.length cqs, .slice pus us.length cus, .slice pns ns.length cns) : EM), ((⟨k, ps, ts, b, d, n, e0, ms, str⟩, .slice pps ps.length cps, .slice pts ts.length cts, .slice pms ms.length cms) : EM)]) (by simp) (by simp) (fun z hz => by
    rcases List.mem_cons.1 hz with rfl | hz
    · exact ⟨Hqs.out.later (by repeat (first | exact Below.refl _ _ | refine Below.alloc ?_ (by simp <;> omega) _)), Hus.out.later (by repeat (first | exact Below.refl _ _ | refine Below.alloc ?_ (by simp <;> omega) _)), Hns.out.later (by repeat (first | exact Below.refl _ _ | refine Below.alloc ?_ (by simp <;> omega) _)), hsz2⟩
    · rcases List.mem_cons.1 hz with rfl | hz
      · exact ⟨Hps.out.later (by repeat (first | exact Below.refl _ _ | refine Below.alloc ?_ (by simp <;> omega) _)), Hts.out.later (by repeat (first | exact Below.refl _ _ | refine Below.alloc ?_ (by simp <;> omega) _)), Hms.out.later (by repeat (first | exact Below.refl _ _ | refine Below.alloc ?_ (by simp <;> omega) _)), hsz⟩
      · cases hz)
  refine (chord_is (ys := [((⟨k2, qs, us, b2, d2, n2, e2, ns, str2⟩, .slice pqs qs.length cqs, .slice pus us.length cus, .slice pns ns.length cns) : EM), ((⟨k, ps, ts, b, d, n, e0, ms, str⟩, .slice pps ps.length cps, .slice pts ts.length cts, .slice pms ms.length cms) : EM)]) HCb.out _ _ HEVS (by simp) hR').mono ?_
  rintro e w6 ⟨vp, vt, vm, rfl, hev, hb6⟩
  clear hR'
  have hs6 : Below w5.heap.size w5 w6 := Below.trans (by repeat (first | exact Below.refl _ _ | refine Below.alloc ?_ (by simp <;> omega) _)) (hb6.mono (by simp <;> omega))
  replace Hps := Lib.hid (Hps.out.later hs6)
  replace Hts := Lib.hid (Hts.out.later hs6)
  replace Hms := Lib.hid (Hms.out.later hs6)
  replace Hqs := Lib.hid (Hqs.out.later hs6)
  replace Hus := Lib.hid (Hus.out.later hs6)
  replace Hns := Lib.hid (Hns.out.later hs6)
  replace HVa := Lib.hid (HVa.out.later hs6)
  replace c_e_0 := cell_later hs6 c_e_0
  replace c_e_1 := cell_later hs6 c_e_1
  replace c_e_2 := cell_later hs6 c_e_2
  replace c_e_3 := cell_later hs6 c_e_3
  replace c_e_4 := cell_later hs6 c_e_4
  replace c_e_5 := cell_later hs6 c_e_5
  replace c_e_6 := cell_later hs6 c_e_6
  replace c_e_7 := cell_later hs6 c_e_7
  replace c_e_8 := cell_later hs6 c_e_8
  replace c_f_0 := cell_later hs6 c_f_0
  replace c_f_1 := cell_later hs6 c_f_1
  replace c_f_2 := cell_later hs6 c_f_2
  replace c_f_3 := cell_later hs6 c_f_3
  replace c_f_4 := cell_later hs6 c_f_4
  replace c_f_5 := cell_later hs6 c_f_5
  replace c_f_6 := cell_later hs6 c_f_6
  replace c_f_7 := cell_later hs6 c_f_7
  replace c_f_8 := cell_later hs6 c_f_8
  have c_a_0 : w6.cell? ⟨w5.heap.size, 0, none⟩ = some (.int .i64 X.k) := (hb6.cell (by simp <;> omega)).trans (by go_simp)
  have c_a_1 : w6.cell? ⟨w5.heap.size, 1, none⟩ = some (.slice pa X.ps.length ca) := (hb6.cell (by simp <;> omega)).trans (by go_simp)
  have c_a_2 : w6.cell? ⟨w5.heap.size, 2, none⟩ = some (.slice qa X.ts.length da) := (hb6.cell (by simp <;> omega)).trans (by go_simp)
  have c_a_3 : w6.cell? ⟨w5.heap.size, 3, none⟩ = some (.int .i64 X.b) := (hb6.cell (by simp <;> omega)).trans (by go_simp)
  have c_a_4 : w6.cell? ⟨w5.heap.size, 4, none⟩ = some (.int .i64 X.d) := (hb6.cell (by simp <;> omega)).trans (by go_simp)
  have c_a_5 : w6.cell? ⟨w5.heap.size, 5, none⟩ = some (.int .i64 X.n) := (hb6.cell (by simp <;> omega)).trans (by go_simp)
  have c_a_6 : w6.cell? ⟨w5.heap.size, 6, none⟩ = some (.int .i64 X.e) := (hb6.cell (by simp <;> omega)).trans (by go_simp)
  have c_a_7 : w6.cell? ⟨w5.heap.size, 7, none⟩ = some (.slice ra X.ms.length fa) := (hb6.cell (by simp <;> omega)).trans (by go_simp)
  have c_a_8 : w6.cell? ⟨w5.heap.size, 8, none⟩ = some (.string X.s) := (hb6.cell (by simp <;> omega)).trans (by go_simp)
  have z_a := World.block_lt_of_cell? _ _ c_a_0
  clear z_e
  have z_e := World.block_lt_of_cell? _ _ c_e_0
  clear z_f
  have z_f := World.block_lt_of_cell? _ _ c_f_0
  have hB6 := below_two hB5 hs6
  clear hB5 hs6 hb6
  dsimp only at hev
  obtain ⟨pb, cb, e3, _⟩ := sl_shape hev.ps
  obtain ⟨qb, db, e4, _⟩ := sl_shape hev.ts
  obtain ⟨rb, fb, e5, _⟩ := sl_shape hev.ms
  subst e3 e4 e5
  have HVb := Lib.hid hev
  clear hev HEVS
  go_wp2_with fail
  have hR' := hR.below (hB6.alloc hB6.size (.cells #[.int .i64 Y.k, .slice pb Y.ps.length cb, .slice qb Y.ts.length db, .int .i64 Y.b, .int .i64 Y.d, .int .i64 Y.n, .int .i64 Y.e, .slice rb Y.ms.length fb, .string X.s] 28))
  refine (esame_is (x := X) (y := { Y with s := X.s }) HXY.out _ _ _ _ _ _ _ (HVa.out.later (by repeat (first | exact Below.refl _ _ | refine Below.alloc ?_ (by simp <;> omega) _))) ⟨(HVb.out.later (by repeat (first | exact Below.refl _ _ | refine Below.alloc ?_ (by simp <;> omega) _))).ps, (HVb.out.later (by repeat (first | exact Below.refl _ _ | refine Below.alloc ?_ (by simp <;> omega) _))).ts, (HVb.out.later (by repeat (first | exact Below.refl _ _ | refine Below.alloc ?_ (by simp <;> omega) _))).ms, HVa.out.sz⟩).mono ?_
  rintro e w7 ⟨rfl, hb7⟩
  clear hR'
  have hs7 : Below w6.heap.size w6 w7 := Below.trans (by repeat (first | exact Below.refl _ _ | refine Below.alloc ?_ (by simp <;> omega) _)) (hb7.mono (by simp <;> omega))
  replace Hps := Lib.hid (Hps.out.later hs7)
  replace Hts := Lib.hid (Hts.out.later hs7)
  replace Hms := Lib.hid (Hms.out.later hs7)
  replace Hqs := Lib.hid (Hqs.out.later hs7)
  replace Hus := Lib.hid (Hus.out.later hs7)
  replace Hns := Lib.hid (Hns.out.later hs7)
  replace HVa := Lib.hid (HVa.out.later hs7)
  replace HVb := Lib.hid (HVb.out.later hs7)
  replace c_e_0 := cell_later hs7 c_e_0
  replace c_e_1 := cell_later hs7 c_e_1
  replace c_e_2 := cell_later hs7 c_e_2
  replace c_e_3 := cell_later hs7 c_e_3
  replace c_e_4 := cell_later hs7 c_e_4
  replace c_e_5 := cell_later hs7 c_e_5
  replace c_e_6 := cell_later hs7 c_e_6
  replace c_e_7 := cell_later hs7 c_e_7
  replace c_e_8 := cell_later hs7 c_e_8
  replace c_f_0 := cell_later hs7 c_f_0
  replace c_f_1 := cell_later hs7 c_f_1
  replace c_f_2 := cell_later hs7 c_f_2
  replace c_f_3 := cell_later hs7 c_f_3
  replace c_f_4 := cell_later hs7 c_f_4
  replace c_f_5 := cell_later hs7 c_f_5
  replace c_f_6 := cell_later hs7 c_f_6
  replace c_f_7 := cell_later hs7 c_f_7
  replace c_f_8 := cell_later hs7 c_f_8
  replace c_a_0 := cell_later hs7 c_a_0
  replace c_a_1 := cell_later hs7 c_a_1
  replace c_a_2 := cell_later hs7 c_a_2
  replace c_a_3 := cell_later hs7 c_a_3
  replace c_a_4 := cell_later hs7 c_a_4
  replace c_a_5 := cell_later hs7 c_a_5
  replace c_a_6 := cell_later hs7 c_a_6
  replace c_a_7 := cell_later hs7 c_a_7
  replace c_a_8 := cell_later hs7 c_a_8
  have c_b_0 : w7.cell? ⟨w6.heap.size, 0, none⟩ = some (.int .i64 Y.k) := (hb7.cell (by simp <;> omega)).trans (by go_simp)
  have c_b_1 : w7.cell? ⟨w6.heap.size, 1, none⟩ = some (.slice pb Y.ps.length cb) := (hb7.cell (by simp <;> omega)).trans (by go_simp)
  have c_b_2 : w7.cell? ⟨w6.heap.size, 2, none⟩ = some (.slice qb Y.ts.length db) := (hb7.cell (by simp <;> omega)).trans (by go_simp)
  have c_b_3 : w7.cell? ⟨w6.heap.size, 3, none⟩ = some (.int .i64 Y.b) := (hb7.cell (by simp <;> omega)).trans (by go_simp)
  have c_b_4 : w7.cell? ⟨w6.heap.size, 4, none⟩ = some (.int .i64 Y.d) := (hb7.cell (by simp <;> omega)).trans (by go_simp)
  have c_b_5 : w7.cell? ⟨w6.heap.size, 5, none⟩ = some (.int .i64 Y.n) := (hb7.cell (by simp <;> omega)).trans (by go_simp)
  have c_b_6 : w7.cell? ⟨w6.heap.size, 6, none⟩ = some (.int .i64 Y.e) := (hb7.cell (by simp <;> omega)).trans (by go_simp)
  have c_b_7 : w7.cell? ⟨w6.heap.size, 7, none⟩ = some (.slice rb Y.ms.length fb) := (hb7.cell (by simp <;> omega)).trans (by go_simp)
  have c_b_8 : w7.cell? ⟨w6.heap.size, 8, none⟩ = some (.string X.s) := (hb7.cell (by simp <;> omega)).trans (by go_simp)
  clear z_a
  have z_a := World.block_lt_of_cell? _ _ c_a_0
  have z_b := World.block_lt_of_cell? _ _ c_b_0
  clear z_e
  have z_e := World.block_lt_of_cell? _ _ c_e_0
  clear z_f
  have z_f := World.block_lt_of_cell? _ _ c_f_0
  have hB7 := below_two hB6 hs7
  clear hB6 hs7 hb7
  go_wp2
  go_ret
  exact ⟨rfl, hB7⟩

theorem chordTurn_any (x y : Ev) (vp vt vm up ut um : Value) (w : World) (h : EvR w vp vt vm x) (h2 : EvR w up ut um y) (hR : Ready w) : Calls Tryd.prog 10 #[evv x vp vt vm, evv y up ut um] w fun ed w' => ed = .returned (.bool true) ∧ Below w.heap.size w w' := by
  rcases hq : fewE x with _ | _
  · exact chordTurn_a x y vp vt vm up ut um w h h2 hR hq
  · rcases hq2 : fewE y with _ | _
    · exact chordTurn_b x y vp vt vm up ut um w h h2 hR hq hq2
    · have ht := Evt.chordE_turn x y
      refine chordTurn_c x y vp vt vm up ut um w h h2 hR hq hq2 (Evt.chordE [x, y]).1 (Evt.chordE [y, x]).1 (Evt.chordE [x, y]).2 rfl (by rw [ht.1]) ?_
      rw [ht.2]
      exact sameE_self _
end Go.Proofs.YtoiankbopjaamaaDoor
