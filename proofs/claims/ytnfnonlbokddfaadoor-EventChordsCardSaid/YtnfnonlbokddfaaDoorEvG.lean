/-
  The contracts of event.Same, Tied.
-/
import Derived.Test.YtnfnonlbokddfaaDoorEvF
namespace Go.Proofs.YtnfnonlbokddfaaDoor
open Go.RowKit

open Evt (P3 Ev)
/-- Have two events the same in all fields? -/
def sameE (x y : Ev) : Bool := decide (x.ps = y.ps) && (decide (x.ts = y.ts) && (decide (x.ms = y.ms) && (decide (x.k = y.k) && (eqV x.b x.d x.n x.e y.b y.d y.n y.e && decide (x.s = y.s)))))
theorem sameE_iff (x y : Ev) : sameE x y = true ↔ x = y := by
  unfold sameE
  rw [Bool.and_eq_true, Bool.and_eq_true, Bool.and_eq_true, Bool.and_eq_true, Bool.and_eq_true, decide_eq_true_iff, decide_eq_true_iff, decide_eq_true_iff, decide_eq_true_iff, decide_eq_true_iff, eqV_iff]
  constructor
  · rintro ⟨h1, h2, h3, h4, ⟨h5, h6, h7, h8⟩, h9⟩; exact Evt.Ev.ext' h4 h1 h2 h5 h6 h7 h8 h3 h9
  · rintro rfl; exact ⟨rfl, rfl, rfl, rfl, ⟨rfl, rfl, rfl, rfl⟩, rfl⟩
theorem sameE_self (x : Ev) : sameE x x = true := (sameE_iff x x).2 rfl
theorem sameE_comm (x y : Ev) : sameE x y = sameE y x := by
  rw [Bool.eq_iff_iff, sameE_iff, sameE_iff]; exact eq_comm
theorem str_eq {s t : ByteArray} (h : s = t) : (s.toList == t.toList) = true := by rw [h]; simp
theorem str_ne {s t : ByteArray} (h : s ≠ t) : (s.toList == t.toList) = false := by
  rw [ByteArray.toList_eq, ByteArray.toList_eq, beq_eq_false_iff_ne]
  intro e
  exact h (by obtain ⟨a⟩ := s; obtain ⟨b⟩ := t; exact congrArg ByteArray.mk (Array.toList_inj.1 e))
theorem alikeP_is {v u : Value} {xs ys : List P3} {b : Bool} (h : decide (xs = ys) = b) (w : World) (h1 : Pits w v xs) (h2 : Pits w u ys) : Calls Tryd.prog 76 #[v, u] w fun ed w' => ed = .returned (.bool b) ∧ Below w.heap.size w w' := by subst h; exact alikeP_any v u xs ys w h1 h2
theorem alikeB_is {v u : Value} {xs ys : List Bool} {b : Bool} (h : decide (xs = ys) = b) (w : World) (h1 : Bools w v xs) (h2 : Bools w u ys) : Calls Tryd.prog 77 #[v, u] w fun ed w' => ed = .returned (.bool b) ∧ Below w.heap.size w w' := by subst h; exact alikeB_any v u xs ys w h1 h2
theorem alikeI_is {v u : Value} {xs ys : List Int} {b : Bool} (h : decide (xs = ys) = b) (w : World) (h1 : Ints w v xs) (h2 : Ints w u ys) : Calls Tryd.prog 78 #[v, u] w fun ed w' => ed = .returned (.bool b) ∧ Below w.heap.size w w' := by subst h; exact alikeI_any v u xs ys w h1 h2

set_option maxRecDepth 100000 in
set_option maxHeartbeats 4000000 in
theorem esame_0 (x y : Ev) (vp vt vm up ut um : Value) (w : World) (h : EvR w vp vt vm x) (h2 : EvR w up ut um y) (HP : Hid (decide (x.ps = y.ps) = false)) :
    Calls Tryd.prog 38 #[evv x vp vt vm, evv y up ut um] w fun ed w' => ed = .returned (.bool false) ∧ Below w.heap.size w w' := by
  obtain ⟨k, ps, ts, b, d, n, e0, ms, str⟩ := x
  obtain ⟨k', ps', ts', b', d', n', e0', ms', str'⟩ := y
  obtain ⟨hps, hts, hms, hsz⟩ := h
  obtain ⟨hps', hts', hms', hsz'⟩ := h2
  dsimp only at hps hts hms hsz hps' hts' hms' hsz' HP ⊢
  have Hps := Lib.hid hps
  obtain ⟨pps, cps, rfl, lps⟩ := sl_shape hps
  have Hts := Lib.hid hts
  obtain ⟨pts, cts, rfl, lts⟩ := sl_shape hts
  have Hms := Lib.hid hms
  obtain ⟨pms, cms, rfl, lms⟩ := sl_shape hms
  have Hps' := Lib.hid hps'
  obtain ⟨pps', cps', rfl, lps'⟩ := sl_shape hps'
  have Hts' := Lib.hid hts'
  obtain ⟨pts', cts', rfl, lts'⟩ := sl_shape hts'
  have Hms' := Lib.hid hms'
  obtain ⟨pms', cms', rfl, lms'⟩ := sl_shape hms'
  clear hps hts hms hps' hts' hms'
  have hB0 : Below w.heap.size w w := Below.refl _ _
  go_enter Tryd.func38, Tryd.ntmps38
  go_wp2_with fail
  refine (alikeP_is HP.out _ (Hps.out.later (by repeat (first | exact Below.refl _ _ | refine Below.alloc ?_ (by simp <;> omega) _))) (Hps'.out.later (by repeat (first | exact Below.refl _ _ | refine Below.alloc ?_ (by simp <;> omega) _)))).mono ?_
  rintro e w1 ⟨rfl, hb1⟩
  have hs1 : Below w.heap.size w w1 := Below.trans (by repeat (first | exact Below.refl _ _ | refine Below.alloc ?_ (by simp <;> omega) _)) (hb1.mono (by simp <;> omega))
  replace Hps := Lib.hid (Hps.out.later hs1)
  replace Hts := Lib.hid (Hts.out.later hs1)
  replace Hms := Lib.hid (Hms.out.later hs1)
  replace Hps' := Lib.hid (Hps'.out.later hs1)
  replace Hts' := Lib.hid (Hts'.out.later hs1)
  replace Hms' := Lib.hid (Hms'.out.later hs1)
  have c_e_0 : w1.cell? ⟨w.heap.size, 0, none⟩ = some (.int .i64 k) := (hb1.cell (by simp <;> omega)).trans (by go_simp)
  have c_e_1 : w1.cell? ⟨w.heap.size, 1, none⟩ = some (.slice pps ps.length cps) := (hb1.cell (by simp <;> omega)).trans (by go_simp)
  have c_e_2 : w1.cell? ⟨w.heap.size, 2, none⟩ = some (.slice pts ts.length cts) := (hb1.cell (by simp <;> omega)).trans (by go_simp)
  have c_e_3 : w1.cell? ⟨w.heap.size, 3, none⟩ = some (.int .i64 b) := (hb1.cell (by simp <;> omega)).trans (by go_simp)
  have c_e_4 : w1.cell? ⟨w.heap.size, 4, none⟩ = some (.int .i64 d) := (hb1.cell (by simp <;> omega)).trans (by go_simp)
  have c_e_5 : w1.cell? ⟨w.heap.size, 5, none⟩ = some (.int .i64 n) := (hb1.cell (by simp <;> omega)).trans (by go_simp)
  have c_e_6 : w1.cell? ⟨w.heap.size, 6, none⟩ = some (.int .i64 e0) := (hb1.cell (by simp <;> omega)).trans (by go_simp)
  have c_e_7 : w1.cell? ⟨w.heap.size, 7, none⟩ = some (.slice pms ms.length cms) := (hb1.cell (by simp <;> omega)).trans (by go_simp)
  have c_e_8 : w1.cell? ⟨w.heap.size, 8, none⟩ = some (.string str) := (hb1.cell (by simp <;> omega)).trans (by go_simp)
  have c_f_0 : w1.cell? ⟨w.heap.size + 1, 0, none⟩ = some (.int .i64 k') := (hb1.cell (by simp <;> omega)).trans (by go_simp)
  have c_f_1 : w1.cell? ⟨w.heap.size + 1, 1, none⟩ = some (.slice pps' ps'.length cps') := (hb1.cell (by simp <;> omega)).trans (by go_simp)
  have c_f_2 : w1.cell? ⟨w.heap.size + 1, 2, none⟩ = some (.slice pts' ts'.length cts') := (hb1.cell (by simp <;> omega)).trans (by go_simp)
  have c_f_3 : w1.cell? ⟨w.heap.size + 1, 3, none⟩ = some (.int .i64 b') := (hb1.cell (by simp <;> omega)).trans (by go_simp)
  have c_f_4 : w1.cell? ⟨w.heap.size + 1, 4, none⟩ = some (.int .i64 d') := (hb1.cell (by simp <;> omega)).trans (by go_simp)
  have c_f_5 : w1.cell? ⟨w.heap.size + 1, 5, none⟩ = some (.int .i64 n') := (hb1.cell (by simp <;> omega)).trans (by go_simp)
  have c_f_6 : w1.cell? ⟨w.heap.size + 1, 6, none⟩ = some (.int .i64 e0') := (hb1.cell (by simp <;> omega)).trans (by go_simp)
  have c_f_7 : w1.cell? ⟨w.heap.size + 1, 7, none⟩ = some (.slice pms' ms'.length cms') := (hb1.cell (by simp <;> omega)).trans (by go_simp)
  have c_f_8 : w1.cell? ⟨w.heap.size + 1, 8, none⟩ = some (.string str') := (hb1.cell (by simp <;> omega)).trans (by go_simp)
  have z_e := World.block_lt_of_cell? _ _ c_e_0
  have z_f := World.block_lt_of_cell? _ _ c_f_0
  have hB1 := below_two hB0 hs1
  clear hB0 hs1 hb1
  go_wp2
  go_ret
  exact ⟨rfl, hB1⟩

set_option maxRecDepth 100000 in
set_option maxHeartbeats 4000000 in
theorem esame_1 (x y : Ev) (vp vt vm up ut um : Value) (w : World) (h : EvR w vp vt vm x) (h2 : EvR w up ut um y) (HP : Hid (decide (x.ps = y.ps) = true)) (HT : Hid (decide (x.ts = y.ts) = false)) :
    Calls Tryd.prog 38 #[evv x vp vt vm, evv y up ut um] w fun ed w' => ed = .returned (.bool false) ∧ Below w.heap.size w w' := by
  obtain ⟨k, ps, ts, b, d, n, e0, ms, str⟩ := x
  obtain ⟨k', ps', ts', b', d', n', e0', ms', str'⟩ := y
  obtain ⟨hps, hts, hms, hsz⟩ := h
  obtain ⟨hps', hts', hms', hsz'⟩ := h2
  dsimp only at hps hts hms hsz hps' hts' hms' hsz' HP HT ⊢
  have Hps := Lib.hid hps
  obtain ⟨pps, cps, rfl, lps⟩ := sl_shape hps
  have Hts := Lib.hid hts
  obtain ⟨pts, cts, rfl, lts⟩ := sl_shape hts
  have Hms := Lib.hid hms
  obtain ⟨pms, cms, rfl, lms⟩ := sl_shape hms
  have Hps' := Lib.hid hps'
  obtain ⟨pps', cps', rfl, lps'⟩ := sl_shape hps'
  have Hts' := Lib.hid hts'
  obtain ⟨pts', cts', rfl, lts'⟩ := sl_shape hts'
  have Hms' := Lib.hid hms'
  obtain ⟨pms', cms', rfl, lms'⟩ := sl_shape hms'
  clear hps hts hms hps' hts' hms'
  have hB0 : Below w.heap.size w w := Below.refl _ _
  go_enter Tryd.func38, Tryd.ntmps38
  go_wp2_with fail
  refine (alikeP_is HP.out _ (Hps.out.later (by repeat (first | exact Below.refl _ _ | refine Below.alloc ?_ (by simp <;> omega) _))) (Hps'.out.later (by repeat (first | exact Below.refl _ _ | refine Below.alloc ?_ (by simp <;> omega) _)))).mono ?_
  rintro e w1 ⟨rfl, hb1⟩
  have hs1 : Below w.heap.size w w1 := Below.trans (by repeat (first | exact Below.refl _ _ | refine Below.alloc ?_ (by simp <;> omega) _)) (hb1.mono (by simp <;> omega))
  replace Hps := Lib.hid (Hps.out.later hs1)
  replace Hts := Lib.hid (Hts.out.later hs1)
  replace Hms := Lib.hid (Hms.out.later hs1)
  replace Hps' := Lib.hid (Hps'.out.later hs1)
  replace Hts' := Lib.hid (Hts'.out.later hs1)
  replace Hms' := Lib.hid (Hms'.out.later hs1)
  have c_e_0 : w1.cell? ⟨w.heap.size, 0, none⟩ = some (.int .i64 k) := (hb1.cell (by simp <;> omega)).trans (by go_simp)
  have c_e_1 : w1.cell? ⟨w.heap.size, 1, none⟩ = some (.slice pps ps.length cps) := (hb1.cell (by simp <;> omega)).trans (by go_simp)
  have c_e_2 : w1.cell? ⟨w.heap.size, 2, none⟩ = some (.slice pts ts.length cts) := (hb1.cell (by simp <;> omega)).trans (by go_simp)
  have c_e_3 : w1.cell? ⟨w.heap.size, 3, none⟩ = some (.int .i64 b) := (hb1.cell (by simp <;> omega)).trans (by go_simp)
  have c_e_4 : w1.cell? ⟨w.heap.size, 4, none⟩ = some (.int .i64 d) := (hb1.cell (by simp <;> omega)).trans (by go_simp)
  have c_e_5 : w1.cell? ⟨w.heap.size, 5, none⟩ = some (.int .i64 n) := (hb1.cell (by simp <;> omega)).trans (by go_simp)
  have c_e_6 : w1.cell? ⟨w.heap.size, 6, none⟩ = some (.int .i64 e0) := (hb1.cell (by simp <;> omega)).trans (by go_simp)
  have c_e_7 : w1.cell? ⟨w.heap.size, 7, none⟩ = some (.slice pms ms.length cms) := (hb1.cell (by simp <;> omega)).trans (by go_simp)
  have c_e_8 : w1.cell? ⟨w.heap.size, 8, none⟩ = some (.string str) := (hb1.cell (by simp <;> omega)).trans (by go_simp)
  have c_f_0 : w1.cell? ⟨w.heap.size + 1, 0, none⟩ = some (.int .i64 k') := (hb1.cell (by simp <;> omega)).trans (by go_simp)
  have c_f_1 : w1.cell? ⟨w.heap.size + 1, 1, none⟩ = some (.slice pps' ps'.length cps') := (hb1.cell (by simp <;> omega)).trans (by go_simp)
  have c_f_2 : w1.cell? ⟨w.heap.size + 1, 2, none⟩ = some (.slice pts' ts'.length cts') := (hb1.cell (by simp <;> omega)).trans (by go_simp)
  have c_f_3 : w1.cell? ⟨w.heap.size + 1, 3, none⟩ = some (.int .i64 b') := (hb1.cell (by simp <;> omega)).trans (by go_simp)
  have c_f_4 : w1.cell? ⟨w.heap.size + 1, 4, none⟩ = some (.int .i64 d') := (hb1.cell (by simp <;> omega)).trans (by go_simp)
  have c_f_5 : w1.cell? ⟨w.heap.size + 1, 5, none⟩ = some (.int .i64 n') := (hb1.cell (by simp <;> omega)).trans (by go_simp)
  have c_f_6 : w1.cell? ⟨w.heap.size + 1, 6, none⟩ = some (.int .i64 e0') := (hb1.cell (by simp <;> omega)).trans (by go_simp)
  have c_f_7 : w1.cell? ⟨w.heap.size + 1, 7, none⟩ = some (.slice pms' ms'.length cms') := (hb1.cell (by simp <;> omega)).trans (by go_simp)
  have c_f_8 : w1.cell? ⟨w.heap.size + 1, 8, none⟩ = some (.string str') := (hb1.cell (by simp <;> omega)).trans (by go_simp)
  have z_e := World.block_lt_of_cell? _ _ c_e_0
  have z_f := World.block_lt_of_cell? _ _ c_f_0
  have hB1 := below_two hB0 hs1
  clear hB0 hs1 hb1
  go_wp2_with fail
  refine (alikeB_is HT.out _ Hts.out Hts'.out).mono ?_
  rintro e w2 ⟨rfl, hb2⟩
  have hs2 := hb2
  replace Hps := Lib.hid (Hps.out.later hs2)
  replace Hts := Lib.hid (Hts.out.later hs2)
  replace Hms := Lib.hid (Hms.out.later hs2)
  replace Hps' := Lib.hid (Hps'.out.later hs2)
  replace Hts' := Lib.hid (Hts'.out.later hs2)
  replace Hms' := Lib.hid (Hms'.out.later hs2)
  replace c_e_0 := cell_later hs2 c_e_0
  replace c_e_1 := cell_later hs2 c_e_1
  replace c_e_2 := cell_later hs2 c_e_2
  replace c_e_3 := cell_later hs2 c_e_3
  replace c_e_4 := cell_later hs2 c_e_4
  replace c_e_5 := cell_later hs2 c_e_5
  replace c_e_6 := cell_later hs2 c_e_6
  replace c_e_7 := cell_later hs2 c_e_7
  replace c_e_8 := cell_later hs2 c_e_8
  replace c_f_0 := cell_later hs2 c_f_0
  replace c_f_1 := cell_later hs2 c_f_1
  replace c_f_2 := cell_later hs2 c_f_2
  replace c_f_3 := cell_later hs2 c_f_3
  replace c_f_4 := cell_later hs2 c_f_4
  replace c_f_5 := cell_later hs2 c_f_5
  replace c_f_6 := cell_later hs2 c_f_6
  replace c_f_7 := cell_later hs2 c_f_7
  replace c_f_8 := cell_later hs2 c_f_8
  clear z_e
  have z_e := World.block_lt_of_cell? _ _ c_e_0
  clear z_f
  have z_f := World.block_lt_of_cell? _ _ c_f_0
  have hB2 := below_two hB1 hs2
  clear hB1 hs2
  go_wp2
  go_ret
  exact ⟨rfl, hB2⟩

set_option maxRecDepth 100000 in
set_option maxHeartbeats 4000000 in
theorem esame_2 (x y : Ev) (vp vt vm up ut um : Value) (w : World) (h : EvR w vp vt vm x) (h2 : EvR w up ut um y) (HP : Hid (decide (x.ps = y.ps) = true)) (HT : Hid (decide (x.ts = y.ts) = true)) (HM : Hid (decide (x.ms = y.ms) = false)) :
    Calls Tryd.prog 38 #[evv x vp vt vm, evv y up ut um] w fun ed w' => ed = .returned (.bool false) ∧ Below w.heap.size w w' := by
  obtain ⟨k, ps, ts, b, d, n, e0, ms, str⟩ := x
  obtain ⟨k', ps', ts', b', d', n', e0', ms', str'⟩ := y
  obtain ⟨hps, hts, hms, hsz⟩ := h
  obtain ⟨hps', hts', hms', hsz'⟩ := h2
  dsimp only at hps hts hms hsz hps' hts' hms' hsz' HP HT HM ⊢
  have Hps := Lib.hid hps
  obtain ⟨pps, cps, rfl, lps⟩ := sl_shape hps
  have Hts := Lib.hid hts
  obtain ⟨pts, cts, rfl, lts⟩ := sl_shape hts
  have Hms := Lib.hid hms
  obtain ⟨pms, cms, rfl, lms⟩ := sl_shape hms
  have Hps' := Lib.hid hps'
  obtain ⟨pps', cps', rfl, lps'⟩ := sl_shape hps'
  have Hts' := Lib.hid hts'
  obtain ⟨pts', cts', rfl, lts'⟩ := sl_shape hts'
  have Hms' := Lib.hid hms'
  obtain ⟨pms', cms', rfl, lms'⟩ := sl_shape hms'
  clear hps hts hms hps' hts' hms'
  have hB0 : Below w.heap.size w w := Below.refl _ _
  go_enter Tryd.func38, Tryd.ntmps38
  go_wp2_with fail
  refine (alikeP_is HP.out _ (Hps.out.later (by repeat (first | exact Below.refl _ _ | refine Below.alloc ?_ (by simp <;> omega) _))) (Hps'.out.later (by repeat (first | exact Below.refl _ _ | refine Below.alloc ?_ (by simp <;> omega) _)))).mono ?_
  rintro e w1 ⟨rfl, hb1⟩
  have hs1 : Below w.heap.size w w1 := Below.trans (by repeat (first | exact Below.refl _ _ | refine Below.alloc ?_ (by simp <;> omega) _)) (hb1.mono (by simp <;> omega))
  replace Hps := Lib.hid (Hps.out.later hs1)
  replace Hts := Lib.hid (Hts.out.later hs1)
  replace Hms := Lib.hid (Hms.out.later hs1)
  replace Hps' := Lib.hid (Hps'.out.later hs1)
  replace Hts' := Lib.hid (Hts'.out.later hs1)
  replace Hms' := Lib.hid (Hms'.out.later hs1)
  have c_e_0 : w1.cell? ⟨w.heap.size, 0, none⟩ = some (.int .i64 k) := (hb1.cell (by simp <;> omega)).trans (by go_simp)
  have c_e_1 : w1.cell? ⟨w.heap.size, 1, none⟩ = some (.slice pps ps.length cps) := (hb1.cell (by simp <;> omega)).trans (by go_simp)
  have c_e_2 : w1.cell? ⟨w.heap.size, 2, none⟩ = some (.slice pts ts.length cts) := (hb1.cell (by simp <;> omega)).trans (by go_simp)
  have c_e_3 : w1.cell? ⟨w.heap.size, 3, none⟩ = some (.int .i64 b) := (hb1.cell (by simp <;> omega)).trans (by go_simp)
  have c_e_4 : w1.cell? ⟨w.heap.size, 4, none⟩ = some (.int .i64 d) := (hb1.cell (by simp <;> omega)).trans (by go_simp)
  have c_e_5 : w1.cell? ⟨w.heap.size, 5, none⟩ = some (.int .i64 n) := (hb1.cell (by simp <;> omega)).trans (by go_simp)
  have c_e_6 : w1.cell? ⟨w.heap.size, 6, none⟩ = some (.int .i64 e0) := (hb1.cell (by simp <;> omega)).trans (by go_simp)
  have c_e_7 : w1.cell? ⟨w.heap.size, 7, none⟩ = some (.slice pms ms.length cms) := (hb1.cell (by simp <;> omega)).trans (by go_simp)
  have c_e_8 : w1.cell? ⟨w.heap.size, 8, none⟩ = some (.string str) := (hb1.cell (by simp <;> omega)).trans (by go_simp)
  have c_f_0 : w1.cell? ⟨w.heap.size + 1, 0, none⟩ = some (.int .i64 k') := (hb1.cell (by simp <;> omega)).trans (by go_simp)
  have c_f_1 : w1.cell? ⟨w.heap.size + 1, 1, none⟩ = some (.slice pps' ps'.length cps') := (hb1.cell (by simp <;> omega)).trans (by go_simp)
  have c_f_2 : w1.cell? ⟨w.heap.size + 1, 2, none⟩ = some (.slice pts' ts'.length cts') := (hb1.cell (by simp <;> omega)).trans (by go_simp)
  have c_f_3 : w1.cell? ⟨w.heap.size + 1, 3, none⟩ = some (.int .i64 b') := (hb1.cell (by simp <;> omega)).trans (by go_simp)
  have c_f_4 : w1.cell? ⟨w.heap.size + 1, 4, none⟩ = some (.int .i64 d') := (hb1.cell (by simp <;> omega)).trans (by go_simp)
  have c_f_5 : w1.cell? ⟨w.heap.size + 1, 5, none⟩ = some (.int .i64 n') := (hb1.cell (by simp <;> omega)).trans (by go_simp)
  have c_f_6 : w1.cell? ⟨w.heap.size + 1, 6, none⟩ = some (.int .i64 e0') := (hb1.cell (by simp <;> omega)).trans (by go_simp)
  have c_f_7 : w1.cell? ⟨w.heap.size + 1, 7, none⟩ = some (.slice pms' ms'.length cms') := (hb1.cell (by simp <;> omega)).trans (by go_simp)
  have c_f_8 : w1.cell? ⟨w.heap.size + 1, 8, none⟩ = some (.string str') := (hb1.cell (by simp <;> omega)).trans (by go_simp)
  have z_e := World.block_lt_of_cell? _ _ c_e_0
  have z_f := World.block_lt_of_cell? _ _ c_f_0
  have hB1 := below_two hB0 hs1
  clear hB0 hs1 hb1
  go_wp2_with fail
  refine (alikeB_is HT.out _ Hts.out Hts'.out).mono ?_
  rintro e w2 ⟨rfl, hb2⟩
  have hs2 := hb2
  replace Hps := Lib.hid (Hps.out.later hs2)
  replace Hts := Lib.hid (Hts.out.later hs2)
  replace Hms := Lib.hid (Hms.out.later hs2)
  replace Hps' := Lib.hid (Hps'.out.later hs2)
  replace Hts' := Lib.hid (Hts'.out.later hs2)
  replace Hms' := Lib.hid (Hms'.out.later hs2)
  replace c_e_0 := cell_later hs2 c_e_0
  replace c_e_1 := cell_later hs2 c_e_1
  replace c_e_2 := cell_later hs2 c_e_2
  replace c_e_3 := cell_later hs2 c_e_3
  replace c_e_4 := cell_later hs2 c_e_4
  replace c_e_5 := cell_later hs2 c_e_5
  replace c_e_6 := cell_later hs2 c_e_6
  replace c_e_7 := cell_later hs2 c_e_7
  replace c_e_8 := cell_later hs2 c_e_8
  replace c_f_0 := cell_later hs2 c_f_0
  replace c_f_1 := cell_later hs2 c_f_1
  replace c_f_2 := cell_later hs2 c_f_2
  replace c_f_3 := cell_later hs2 c_f_3
  replace c_f_4 := cell_later hs2 c_f_4
  replace c_f_5 := cell_later hs2 c_f_5
  replace c_f_6 := cell_later hs2 c_f_6
  replace c_f_7 := cell_later hs2 c_f_7
  replace c_f_8 := cell_later hs2 c_f_8
  clear z_e
  have z_e := World.block_lt_of_cell? _ _ c_e_0
  clear z_f
  have z_f := World.block_lt_of_cell? _ _ c_f_0
  have hB2 := below_two hB1 hs2
  clear hB1 hs2
  go_wp2_with fail
  refine (alikeI_is HM.out _ Hms.out Hms'.out).mono ?_
  rintro e w3 ⟨rfl, hb3⟩
  have hs3 := hb3
  replace Hps := Lib.hid (Hps.out.later hs3)
  replace Hts := Lib.hid (Hts.out.later hs3)
  replace Hms := Lib.hid (Hms.out.later hs3)
  replace Hps' := Lib.hid (Hps'.out.later hs3)
  replace Hts' := Lib.hid (Hts'.out.later hs3)
  replace Hms' := Lib.hid (Hms'.out.later hs3)
  replace c_e_0 := cell_later hs3 c_e_0
  replace c_e_1 := cell_later hs3 c_e_1
  replace c_e_2 := cell_later hs3 c_e_2
  replace c_e_3 := cell_later hs3 c_e_3
  replace c_e_4 := cell_later hs3 c_e_4
  replace c_e_5 := cell_later hs3 c_e_5
  replace c_e_6 := cell_later hs3 c_e_6
  replace c_e_7 := cell_later hs3 c_e_7
  replace c_e_8 := cell_later hs3 c_e_8
  replace c_f_0 := cell_later hs3 c_f_0
  replace c_f_1 := cell_later hs3 c_f_1
  replace c_f_2 := cell_later hs3 c_f_2
  replace c_f_3 := cell_later hs3 c_f_3
  replace c_f_4 := cell_later hs3 c_f_4
  replace c_f_5 := cell_later hs3 c_f_5
  replace c_f_6 := cell_later hs3 c_f_6
  replace c_f_7 := cell_later hs3 c_f_7
  replace c_f_8 := cell_later hs3 c_f_8
  clear z_e
  have z_e := World.block_lt_of_cell? _ _ c_e_0
  clear z_f
  have z_f := World.block_lt_of_cell? _ _ c_f_0
  have hB3 := below_two hB2 hs3
  clear hB2 hs3
  go_wp2
  go_ret
  exact ⟨rfl, hB3⟩

set_option maxRecDepth 100000 in
set_option maxHeartbeats 4000000 in
theorem esame_3 (x y : Ev) (vp vt vm up ut um : Value) (w : World) (h : EvR w vp vt vm x) (h2 : EvR w up ut um y) (HP : Hid (decide (x.ps = y.ps) = true)) (HT : Hid (decide (x.ts = y.ts) = true)) (HM : Hid (decide (x.ms = y.ms) = true)) (hk : (x.k == y.k) = false) :
    Calls Tryd.prog 38 #[evv x vp vt vm, evv y up ut um] w fun ed w' => ed = .returned (.bool false) ∧ Below w.heap.size w w' := by
  obtain ⟨k, ps, ts, b, d, n, e0, ms, str⟩ := x
  obtain ⟨k', ps', ts', b', d', n', e0', ms', str'⟩ := y
  obtain ⟨hps, hts, hms, hsz⟩ := h
  obtain ⟨hps', hts', hms', hsz'⟩ := h2
  dsimp only at hps hts hms hsz hps' hts' hms' hsz' HP HT HM hk ⊢
  have Hps := Lib.hid hps
  obtain ⟨pps, cps, rfl, lps⟩ := sl_shape hps
  have Hts := Lib.hid hts
  obtain ⟨pts, cts, rfl, lts⟩ := sl_shape hts
  have Hms := Lib.hid hms
  obtain ⟨pms, cms, rfl, lms⟩ := sl_shape hms
  have Hps' := Lib.hid hps'
  obtain ⟨pps', cps', rfl, lps'⟩ := sl_shape hps'
  have Hts' := Lib.hid hts'
  obtain ⟨pts', cts', rfl, lts'⟩ := sl_shape hts'
  have Hms' := Lib.hid hms'
  obtain ⟨pms', cms', rfl, lms'⟩ := sl_shape hms'
  clear hps hts hms hps' hts' hms'
  have hB0 : Below w.heap.size w w := Below.refl _ _
  go_enter Tryd.func38, Tryd.ntmps38
  go_wp2_with fail
  refine (alikeP_is HP.out _ (Hps.out.later (by repeat (first | exact Below.refl _ _ | refine Below.alloc ?_ (by simp <;> omega) _))) (Hps'.out.later (by repeat (first | exact Below.refl _ _ | refine Below.alloc ?_ (by simp <;> omega) _)))).mono ?_
  rintro e w1 ⟨rfl, hb1⟩
  have hs1 : Below w.heap.size w w1 := Below.trans (by repeat (first | exact Below.refl _ _ | refine Below.alloc ?_ (by simp <;> omega) _)) (hb1.mono (by simp <;> omega))
  replace Hps := Lib.hid (Hps.out.later hs1)
  replace Hts := Lib.hid (Hts.out.later hs1)
  replace Hms := Lib.hid (Hms.out.later hs1)
  replace Hps' := Lib.hid (Hps'.out.later hs1)
  replace Hts' := Lib.hid (Hts'.out.later hs1)
  replace Hms' := Lib.hid (Hms'.out.later hs1)
  have c_e_0 : w1.cell? ⟨w.heap.size, 0, none⟩ = some (.int .i64 k) := (hb1.cell (by simp <;> omega)).trans (by go_simp)
  have c_e_1 : w1.cell? ⟨w.heap.size, 1, none⟩ = some (.slice pps ps.length cps) := (hb1.cell (by simp <;> omega)).trans (by go_simp)
  have c_e_2 : w1.cell? ⟨w.heap.size, 2, none⟩ = some (.slice pts ts.length cts) := (hb1.cell (by simp <;> omega)).trans (by go_simp)
  have c_e_3 : w1.cell? ⟨w.heap.size, 3, none⟩ = some (.int .i64 b) := (hb1.cell (by simp <;> omega)).trans (by go_simp)
  have c_e_4 : w1.cell? ⟨w.heap.size, 4, none⟩ = some (.int .i64 d) := (hb1.cell (by simp <;> omega)).trans (by go_simp)
  have c_e_5 : w1.cell? ⟨w.heap.size, 5, none⟩ = some (.int .i64 n) := (hb1.cell (by simp <;> omega)).trans (by go_simp)
  have c_e_6 : w1.cell? ⟨w.heap.size, 6, none⟩ = some (.int .i64 e0) := (hb1.cell (by simp <;> omega)).trans (by go_simp)
  have c_e_7 : w1.cell? ⟨w.heap.size, 7, none⟩ = some (.slice pms ms.length cms) := (hb1.cell (by simp <;> omega)).trans (by go_simp)
  have c_e_8 : w1.cell? ⟨w.heap.size, 8, none⟩ = some (.string str) := (hb1.cell (by simp <;> omega)).trans (by go_simp)
  have c_f_0 : w1.cell? ⟨w.heap.size + 1, 0, none⟩ = some (.int .i64 k') := (hb1.cell (by simp <;> omega)).trans (by go_simp)
  have c_f_1 : w1.cell? ⟨w.heap.size + 1, 1, none⟩ = some (.slice pps' ps'.length cps') := (hb1.cell (by simp <;> omega)).trans (by go_simp)
  have c_f_2 : w1.cell? ⟨w.heap.size + 1, 2, none⟩ = some (.slice pts' ts'.length cts') := (hb1.cell (by simp <;> omega)).trans (by go_simp)
  have c_f_3 : w1.cell? ⟨w.heap.size + 1, 3, none⟩ = some (.int .i64 b') := (hb1.cell (by simp <;> omega)).trans (by go_simp)
  have c_f_4 : w1.cell? ⟨w.heap.size + 1, 4, none⟩ = some (.int .i64 d') := (hb1.cell (by simp <;> omega)).trans (by go_simp)
  have c_f_5 : w1.cell? ⟨w.heap.size + 1, 5, none⟩ = some (.int .i64 n') := (hb1.cell (by simp <;> omega)).trans (by go_simp)
  have c_f_6 : w1.cell? ⟨w.heap.size + 1, 6, none⟩ = some (.int .i64 e0') := (hb1.cell (by simp <;> omega)).trans (by go_simp)
  have c_f_7 : w1.cell? ⟨w.heap.size + 1, 7, none⟩ = some (.slice pms' ms'.length cms') := (hb1.cell (by simp <;> omega)).trans (by go_simp)
  have c_f_8 : w1.cell? ⟨w.heap.size + 1, 8, none⟩ = some (.string str') := (hb1.cell (by simp <;> omega)).trans (by go_simp)
  have z_e := World.block_lt_of_cell? _ _ c_e_0
  have z_f := World.block_lt_of_cell? _ _ c_f_0
  have hB1 := below_two hB0 hs1
  clear hB0 hs1 hb1
  go_wp2_with fail
  refine (alikeB_is HT.out _ Hts.out Hts'.out).mono ?_
  rintro e w2 ⟨rfl, hb2⟩
  have hs2 := hb2
  replace Hps := Lib.hid (Hps.out.later hs2)
  replace Hts := Lib.hid (Hts.out.later hs2)
  replace Hms := Lib.hid (Hms.out.later hs2)
  replace Hps' := Lib.hid (Hps'.out.later hs2)
  replace Hts' := Lib.hid (Hts'.out.later hs2)
  replace Hms' := Lib.hid (Hms'.out.later hs2)
  replace c_e_0 := cell_later hs2 c_e_0
  replace c_e_1 := cell_later hs2 c_e_1
  replace c_e_2 := cell_later hs2 c_e_2
  replace c_e_3 := cell_later hs2 c_e_3
  replace c_e_4 := cell_later hs2 c_e_4
  replace c_e_5 := cell_later hs2 c_e_5
  replace c_e_6 := cell_later hs2 c_e_6
  replace c_e_7 := cell_later hs2 c_e_7
  replace c_e_8 := cell_later hs2 c_e_8
  replace c_f_0 := cell_later hs2 c_f_0
  replace c_f_1 := cell_later hs2 c_f_1
  replace c_f_2 := cell_later hs2 c_f_2
  replace c_f_3 := cell_later hs2 c_f_3
  replace c_f_4 := cell_later hs2 c_f_4
  replace c_f_5 := cell_later hs2 c_f_5
  replace c_f_6 := cell_later hs2 c_f_6
  replace c_f_7 := cell_later hs2 c_f_7
  replace c_f_8 := cell_later hs2 c_f_8
  clear z_e
  have z_e := World.block_lt_of_cell? _ _ c_e_0
  clear z_f
  have z_f := World.block_lt_of_cell? _ _ c_f_0
  have hB2 := below_two hB1 hs2
  clear hB1 hs2
  go_wp2_with fail
  refine (alikeI_is HM.out _ Hms.out Hms'.out).mono ?_
  rintro e w3 ⟨rfl, hb3⟩
  have hs3 := hb3
  replace Hps := Lib.hid (Hps.out.later hs3)
  replace Hts := Lib.hid (Hts.out.later hs3)
  replace Hms := Lib.hid (Hms.out.later hs3)
  replace Hps' := Lib.hid (Hps'.out.later hs3)
  replace Hts' := Lib.hid (Hts'.out.later hs3)
  replace Hms' := Lib.hid (Hms'.out.later hs3)
  replace c_e_0 := cell_later hs3 c_e_0
  replace c_e_1 := cell_later hs3 c_e_1
  replace c_e_2 := cell_later hs3 c_e_2
  replace c_e_3 := cell_later hs3 c_e_3
  replace c_e_4 := cell_later hs3 c_e_4
  replace c_e_5 := cell_later hs3 c_e_5
  replace c_e_6 := cell_later hs3 c_e_6
  replace c_e_7 := cell_later hs3 c_e_7
  replace c_e_8 := cell_later hs3 c_e_8
  replace c_f_0 := cell_later hs3 c_f_0
  replace c_f_1 := cell_later hs3 c_f_1
  replace c_f_2 := cell_later hs3 c_f_2
  replace c_f_3 := cell_later hs3 c_f_3
  replace c_f_4 := cell_later hs3 c_f_4
  replace c_f_5 := cell_later hs3 c_f_5
  replace c_f_6 := cell_later hs3 c_f_6
  replace c_f_7 := cell_later hs3 c_f_7
  replace c_f_8 := cell_later hs3 c_f_8
  clear z_e
  have z_e := World.block_lt_of_cell? _ _ c_e_0
  clear z_f
  have z_f := World.block_lt_of_cell? _ _ c_f_0
  have hB3 := below_two hB2 hs3
  clear hB2 hs3
  go_wp2
  go_ret
  exact ⟨rfl, hB3⟩

set_option maxRecDepth 100000 in
set_option maxHeartbeats 4000000 in
theorem esame_4 (x y : Ev) (vp vt vm up ut um : Value) (w : World) (h : EvR w vp vt vm x) (h2 : EvR w up ut um y) (HP : Hid (decide (x.ps = y.ps) = true)) (HT : Hid (decide (x.ts = y.ts) = true)) (HM : Hid (decide (x.ms = y.ms) = true)) (hk : (x.k == y.k) = true) (hv : eqV x.b x.d x.n x.e y.b y.d y.n y.e = false) :
    Calls Tryd.prog 38 #[evv x vp vt vm, evv y up ut um] w fun ed w' => ed = .returned (.bool false) ∧ Below w.heap.size w w' := by
  obtain ⟨k, ps, ts, b, d, n, e0, ms, str⟩ := x
  obtain ⟨k', ps', ts', b', d', n', e0', ms', str'⟩ := y
  obtain ⟨hps, hts, hms, hsz⟩ := h
  obtain ⟨hps', hts', hms', hsz'⟩ := h2
  dsimp only at hps hts hms hsz hps' hts' hms' hsz' HP HT HM hk hv ⊢
  have Hps := Lib.hid hps
  obtain ⟨pps, cps, rfl, lps⟩ := sl_shape hps
  have Hts := Lib.hid hts
  obtain ⟨pts, cts, rfl, lts⟩ := sl_shape hts
  have Hms := Lib.hid hms
  obtain ⟨pms, cms, rfl, lms⟩ := sl_shape hms
  have Hps' := Lib.hid hps'
  obtain ⟨pps', cps', rfl, lps'⟩ := sl_shape hps'
  have Hts' := Lib.hid hts'
  obtain ⟨pts', cts', rfl, lts'⟩ := sl_shape hts'
  have Hms' := Lib.hid hms'
  obtain ⟨pms', cms', rfl, lms'⟩ := sl_shape hms'
  clear hps hts hms hps' hts' hms'
  have hB0 : Below w.heap.size w w := Below.refl _ _
  go_enter Tryd.func38, Tryd.ntmps38
  go_wp2_with fail
  refine (alikeP_is HP.out _ (Hps.out.later (by repeat (first | exact Below.refl _ _ | refine Below.alloc ?_ (by simp <;> omega) _))) (Hps'.out.later (by repeat (first | exact Below.refl _ _ | refine Below.alloc ?_ (by simp <;> omega) _)))).mono ?_
  rintro e w1 ⟨rfl, hb1⟩
  have hs1 : Below w.heap.size w w1 := Below.trans (by repeat (first | exact Below.refl _ _ | refine Below.alloc ?_ (by simp <;> omega) _)) (hb1.mono (by simp <;> omega))
  replace Hps := Lib.hid (Hps.out.later hs1)
  replace Hts := Lib.hid (Hts.out.later hs1)
  replace Hms := Lib.hid (Hms.out.later hs1)
  replace Hps' := Lib.hid (Hps'.out.later hs1)
  replace Hts' := Lib.hid (Hts'.out.later hs1)
  replace Hms' := Lib.hid (Hms'.out.later hs1)
  have c_e_0 : w1.cell? ⟨w.heap.size, 0, none⟩ = some (.int .i64 k) := (hb1.cell (by simp <;> omega)).trans (by go_simp)
  have c_e_1 : w1.cell? ⟨w.heap.size, 1, none⟩ = some (.slice pps ps.length cps) := (hb1.cell (by simp <;> omega)).trans (by go_simp)
  have c_e_2 : w1.cell? ⟨w.heap.size, 2, none⟩ = some (.slice pts ts.length cts) := (hb1.cell (by simp <;> omega)).trans (by go_simp)
  have c_e_3 : w1.cell? ⟨w.heap.size, 3, none⟩ = some (.int .i64 b) := (hb1.cell (by simp <;> omega)).trans (by go_simp)
  have c_e_4 : w1.cell? ⟨w.heap.size, 4, none⟩ = some (.int .i64 d) := (hb1.cell (by simp <;> omega)).trans (by go_simp)
  have c_e_5 : w1.cell? ⟨w.heap.size, 5, none⟩ = some (.int .i64 n) := (hb1.cell (by simp <;> omega)).trans (by go_simp)
  have c_e_6 : w1.cell? ⟨w.heap.size, 6, none⟩ = some (.int .i64 e0) := (hb1.cell (by simp <;> omega)).trans (by go_simp)
  have c_e_7 : w1.cell? ⟨w.heap.size, 7, none⟩ = some (.slice pms ms.length cms) := (hb1.cell (by simp <;> omega)).trans (by go_simp)
  have c_e_8 : w1.cell? ⟨w.heap.size, 8, none⟩ = some (.string str) := (hb1.cell (by simp <;> omega)).trans (by go_simp)
  have c_f_0 : w1.cell? ⟨w.heap.size + 1, 0, none⟩ = some (.int .i64 k') := (hb1.cell (by simp <;> omega)).trans (by go_simp)
  have c_f_1 : w1.cell? ⟨w.heap.size + 1, 1, none⟩ = some (.slice pps' ps'.length cps') := (hb1.cell (by simp <;> omega)).trans (by go_simp)
  have c_f_2 : w1.cell? ⟨w.heap.size + 1, 2, none⟩ = some (.slice pts' ts'.length cts') := (hb1.cell (by simp <;> omega)).trans (by go_simp)
  have c_f_3 : w1.cell? ⟨w.heap.size + 1, 3, none⟩ = some (.int .i64 b') := (hb1.cell (by simp <;> omega)).trans (by go_simp)
  have c_f_4 : w1.cell? ⟨w.heap.size + 1, 4, none⟩ = some (.int .i64 d') := (hb1.cell (by simp <;> omega)).trans (by go_simp)
  have c_f_5 : w1.cell? ⟨w.heap.size + 1, 5, none⟩ = some (.int .i64 n') := (hb1.cell (by simp <;> omega)).trans (by go_simp)
  have c_f_6 : w1.cell? ⟨w.heap.size + 1, 6, none⟩ = some (.int .i64 e0') := (hb1.cell (by simp <;> omega)).trans (by go_simp)
  have c_f_7 : w1.cell? ⟨w.heap.size + 1, 7, none⟩ = some (.slice pms' ms'.length cms') := (hb1.cell (by simp <;> omega)).trans (by go_simp)
  have c_f_8 : w1.cell? ⟨w.heap.size + 1, 8, none⟩ = some (.string str') := (hb1.cell (by simp <;> omega)).trans (by go_simp)
  have z_e := World.block_lt_of_cell? _ _ c_e_0
  have z_f := World.block_lt_of_cell? _ _ c_f_0
  have hB1 := below_two hB0 hs1
  clear hB0 hs1 hb1
  go_wp2_with fail
  refine (alikeB_is HT.out _ Hts.out Hts'.out).mono ?_
  rintro e w2 ⟨rfl, hb2⟩
  have hs2 := hb2
  replace Hps := Lib.hid (Hps.out.later hs2)
  replace Hts := Lib.hid (Hts.out.later hs2)
  replace Hms := Lib.hid (Hms.out.later hs2)
  replace Hps' := Lib.hid (Hps'.out.later hs2)
  replace Hts' := Lib.hid (Hts'.out.later hs2)
  replace Hms' := Lib.hid (Hms'.out.later hs2)
  replace c_e_0 := cell_later hs2 c_e_0
  replace c_e_1 := cell_later hs2 c_e_1
  replace c_e_2 := cell_later hs2 c_e_2
  replace c_e_3 := cell_later hs2 c_e_3
  replace c_e_4 := cell_later hs2 c_e_4
  replace c_e_5 := cell_later hs2 c_e_5
  replace c_e_6 := cell_later hs2 c_e_6
  replace c_e_7 := cell_later hs2 c_e_7
  replace c_e_8 := cell_later hs2 c_e_8
  replace c_f_0 := cell_later hs2 c_f_0
  replace c_f_1 := cell_later hs2 c_f_1
  replace c_f_2 := cell_later hs2 c_f_2
  replace c_f_3 := cell_later hs2 c_f_3
  replace c_f_4 := cell_later hs2 c_f_4
  replace c_f_5 := cell_later hs2 c_f_5
  replace c_f_6 := cell_later hs2 c_f_6
  replace c_f_7 := cell_later hs2 c_f_7
  replace c_f_8 := cell_later hs2 c_f_8
  clear z_e
  have z_e := World.block_lt_of_cell? _ _ c_e_0
  clear z_f
  have z_f := World.block_lt_of_cell? _ _ c_f_0
  have hB2 := below_two hB1 hs2
  clear hB1 hs2
  go_wp2_with fail
  refine (alikeI_is HM.out _ Hms.out Hms'.out).mono ?_
  rintro e w3 ⟨rfl, hb3⟩
  have hs3 := hb3
  replace Hps := Lib.hid (Hps.out.later hs3)
  replace Hts := Lib.hid (Hts.out.later hs3)
  replace Hms := Lib.hid (Hms.out.later hs3)
  replace Hps' := Lib.hid (Hps'.out.later hs3)
  replace Hts' := Lib.hid (Hts'.out.later hs3)
  replace Hms' := Lib.hid (Hms'.out.later hs3)
  replace c_e_0 := cell_later hs3 c_e_0
  replace c_e_1 := cell_later hs3 c_e_1
  replace c_e_2 := cell_later hs3 c_e_2
  replace c_e_3 := cell_later hs3 c_e_3
  replace c_e_4 := cell_later hs3 c_e_4
  replace c_e_5 := cell_later hs3 c_e_5
  replace c_e_6 := cell_later hs3 c_e_6
  replace c_e_7 := cell_later hs3 c_e_7
  replace c_e_8 := cell_later hs3 c_e_8
  replace c_f_0 := cell_later hs3 c_f_0
  replace c_f_1 := cell_later hs3 c_f_1
  replace c_f_2 := cell_later hs3 c_f_2
  replace c_f_3 := cell_later hs3 c_f_3
  replace c_f_4 := cell_later hs3 c_f_4
  replace c_f_5 := cell_later hs3 c_f_5
  replace c_f_6 := cell_later hs3 c_f_6
  replace c_f_7 := cell_later hs3 c_f_7
  replace c_f_8 := cell_later hs3 c_f_8
  clear z_e
  have z_e := World.block_lt_of_cell? _ _ c_e_0
  clear z_f
  have z_f := World.block_lt_of_cell? _ _ c_f_0
  have hB3 := below_two hB2 hs3
  clear hB2 hs3
  have hgV := guardV
  have heV := eql_vl
  go_wp2
  go_ret
  exact ⟨rfl, hB3⟩

set_option maxRecDepth 100000 in
set_option maxHeartbeats 4000000 in
theorem esame_5 (x y : Ev) (vp vt vm up ut um : Value) (w : World) (h : EvR w vp vt vm x) (h2 : EvR w up ut um y) (HP : Hid (decide (x.ps = y.ps) = true)) (HT : Hid (decide (x.ts = y.ts) = true)) (HM : Hid (decide (x.ms = y.ms) = true)) (hk : (x.k == y.k) = true) (hv : eqV x.b x.d x.n x.e y.b y.d y.n y.e = true) (hs : (x.s.toList == y.s.toList) = false) :
    Calls Tryd.prog 38 #[evv x vp vt vm, evv y up ut um] w fun ed w' => ed = .returned (.bool false) ∧ Below w.heap.size w w' := by
  obtain ⟨k, ps, ts, b, d, n, e0, ms, str⟩ := x
  obtain ⟨k', ps', ts', b', d', n', e0', ms', str'⟩ := y
  obtain ⟨hps, hts, hms, hsz⟩ := h
  obtain ⟨hps', hts', hms', hsz'⟩ := h2
  dsimp only at hps hts hms hsz hps' hts' hms' hsz' HP HT HM hk hv hs ⊢
  have Hps := Lib.hid hps
  obtain ⟨pps, cps, rfl, lps⟩ := sl_shape hps
  have Hts := Lib.hid hts
  obtain ⟨pts, cts, rfl, lts⟩ := sl_shape hts
  have Hms := Lib.hid hms
  obtain ⟨pms, cms, rfl, lms⟩ := sl_shape hms
  have Hps' := Lib.hid hps'
  obtain ⟨pps', cps', rfl, lps'⟩ := sl_shape hps'
  have Hts' := Lib.hid hts'
  obtain ⟨pts', cts', rfl, lts'⟩ := sl_shape hts'
  have Hms' := Lib.hid hms'
  obtain ⟨pms', cms', rfl, lms'⟩ := sl_shape hms'
  clear hps hts hms hps' hts' hms'
  have hB0 : Below w.heap.size w w := Below.refl _ _
  go_enter Tryd.func38, Tryd.ntmps38
  go_wp2_with fail
  refine (alikeP_is HP.out _ (Hps.out.later (by repeat (first | exact Below.refl _ _ | refine Below.alloc ?_ (by simp <;> omega) _))) (Hps'.out.later (by repeat (first | exact Below.refl _ _ | refine Below.alloc ?_ (by simp <;> omega) _)))).mono ?_
  rintro e w1 ⟨rfl, hb1⟩
  have hs1 : Below w.heap.size w w1 := Below.trans (by repeat (first | exact Below.refl _ _ | refine Below.alloc ?_ (by simp <;> omega) _)) (hb1.mono (by simp <;> omega))
  replace Hps := Lib.hid (Hps.out.later hs1)
  replace Hts := Lib.hid (Hts.out.later hs1)
  replace Hms := Lib.hid (Hms.out.later hs1)
  replace Hps' := Lib.hid (Hps'.out.later hs1)
  replace Hts' := Lib.hid (Hts'.out.later hs1)
  replace Hms' := Lib.hid (Hms'.out.later hs1)
  have c_e_0 : w1.cell? ⟨w.heap.size, 0, none⟩ = some (.int .i64 k) := (hb1.cell (by simp <;> omega)).trans (by go_simp)
  have c_e_1 : w1.cell? ⟨w.heap.size, 1, none⟩ = some (.slice pps ps.length cps) := (hb1.cell (by simp <;> omega)).trans (by go_simp)
  have c_e_2 : w1.cell? ⟨w.heap.size, 2, none⟩ = some (.slice pts ts.length cts) := (hb1.cell (by simp <;> omega)).trans (by go_simp)
  have c_e_3 : w1.cell? ⟨w.heap.size, 3, none⟩ = some (.int .i64 b) := (hb1.cell (by simp <;> omega)).trans (by go_simp)
  have c_e_4 : w1.cell? ⟨w.heap.size, 4, none⟩ = some (.int .i64 d) := (hb1.cell (by simp <;> omega)).trans (by go_simp)
  have c_e_5 : w1.cell? ⟨w.heap.size, 5, none⟩ = some (.int .i64 n) := (hb1.cell (by simp <;> omega)).trans (by go_simp)
  have c_e_6 : w1.cell? ⟨w.heap.size, 6, none⟩ = some (.int .i64 e0) := (hb1.cell (by simp <;> omega)).trans (by go_simp)
  have c_e_7 : w1.cell? ⟨w.heap.size, 7, none⟩ = some (.slice pms ms.length cms) := (hb1.cell (by simp <;> omega)).trans (by go_simp)
  have c_e_8 : w1.cell? ⟨w.heap.size, 8, none⟩ = some (.string str) := (hb1.cell (by simp <;> omega)).trans (by go_simp)
  have c_f_0 : w1.cell? ⟨w.heap.size + 1, 0, none⟩ = some (.int .i64 k') := (hb1.cell (by simp <;> omega)).trans (by go_simp)
  have c_f_1 : w1.cell? ⟨w.heap.size + 1, 1, none⟩ = some (.slice pps' ps'.length cps') := (hb1.cell (by simp <;> omega)).trans (by go_simp)
  have c_f_2 : w1.cell? ⟨w.heap.size + 1, 2, none⟩ = some (.slice pts' ts'.length cts') := (hb1.cell (by simp <;> omega)).trans (by go_simp)
  have c_f_3 : w1.cell? ⟨w.heap.size + 1, 3, none⟩ = some (.int .i64 b') := (hb1.cell (by simp <;> omega)).trans (by go_simp)
  have c_f_4 : w1.cell? ⟨w.heap.size + 1, 4, none⟩ = some (.int .i64 d') := (hb1.cell (by simp <;> omega)).trans (by go_simp)
  have c_f_5 : w1.cell? ⟨w.heap.size + 1, 5, none⟩ = some (.int .i64 n') := (hb1.cell (by simp <;> omega)).trans (by go_simp)
  have c_f_6 : w1.cell? ⟨w.heap.size + 1, 6, none⟩ = some (.int .i64 e0') := (hb1.cell (by simp <;> omega)).trans (by go_simp)
  have c_f_7 : w1.cell? ⟨w.heap.size + 1, 7, none⟩ = some (.slice pms' ms'.length cms') := (hb1.cell (by simp <;> omega)).trans (by go_simp)
  have c_f_8 : w1.cell? ⟨w.heap.size + 1, 8, none⟩ = some (.string str') := (hb1.cell (by simp <;> omega)).trans (by go_simp)
  have z_e := World.block_lt_of_cell? _ _ c_e_0
  have z_f := World.block_lt_of_cell? _ _ c_f_0
  have hB1 := below_two hB0 hs1
  clear hB0 hs1 hb1
  go_wp2_with fail
  refine (alikeB_is HT.out _ Hts.out Hts'.out).mono ?_
  rintro e w2 ⟨rfl, hb2⟩
  have hs2 := hb2
  replace Hps := Lib.hid (Hps.out.later hs2)
  replace Hts := Lib.hid (Hts.out.later hs2)
  replace Hms := Lib.hid (Hms.out.later hs2)
  replace Hps' := Lib.hid (Hps'.out.later hs2)
  replace Hts' := Lib.hid (Hts'.out.later hs2)
  replace Hms' := Lib.hid (Hms'.out.later hs2)
  replace c_e_0 := cell_later hs2 c_e_0
  replace c_e_1 := cell_later hs2 c_e_1
  replace c_e_2 := cell_later hs2 c_e_2
  replace c_e_3 := cell_later hs2 c_e_3
  replace c_e_4 := cell_later hs2 c_e_4
  replace c_e_5 := cell_later hs2 c_e_5
  replace c_e_6 := cell_later hs2 c_e_6
  replace c_e_7 := cell_later hs2 c_e_7
  replace c_e_8 := cell_later hs2 c_e_8
  replace c_f_0 := cell_later hs2 c_f_0
  replace c_f_1 := cell_later hs2 c_f_1
  replace c_f_2 := cell_later hs2 c_f_2
  replace c_f_3 := cell_later hs2 c_f_3
  replace c_f_4 := cell_later hs2 c_f_4
  replace c_f_5 := cell_later hs2 c_f_5
  replace c_f_6 := cell_later hs2 c_f_6
  replace c_f_7 := cell_later hs2 c_f_7
  replace c_f_8 := cell_later hs2 c_f_8
  clear z_e
  have z_e := World.block_lt_of_cell? _ _ c_e_0
  clear z_f
  have z_f := World.block_lt_of_cell? _ _ c_f_0
  have hB2 := below_two hB1 hs2
  clear hB1 hs2
  go_wp2_with fail
  refine (alikeI_is HM.out _ Hms.out Hms'.out).mono ?_
  rintro e w3 ⟨rfl, hb3⟩
  have hs3 := hb3
  replace Hps := Lib.hid (Hps.out.later hs3)
  replace Hts := Lib.hid (Hts.out.later hs3)
  replace Hms := Lib.hid (Hms.out.later hs3)
  replace Hps' := Lib.hid (Hps'.out.later hs3)
  replace Hts' := Lib.hid (Hts'.out.later hs3)
  replace Hms' := Lib.hid (Hms'.out.later hs3)
  replace c_e_0 := cell_later hs3 c_e_0
  replace c_e_1 := cell_later hs3 c_e_1
  replace c_e_2 := cell_later hs3 c_e_2
  replace c_e_3 := cell_later hs3 c_e_3
  replace c_e_4 := cell_later hs3 c_e_4
  replace c_e_5 := cell_later hs3 c_e_5
  replace c_e_6 := cell_later hs3 c_e_6
  replace c_e_7 := cell_later hs3 c_e_7
  replace c_e_8 := cell_later hs3 c_e_8
  replace c_f_0 := cell_later hs3 c_f_0
  replace c_f_1 := cell_later hs3 c_f_1
  replace c_f_2 := cell_later hs3 c_f_2
  replace c_f_3 := cell_later hs3 c_f_3
  replace c_f_4 := cell_later hs3 c_f_4
  replace c_f_5 := cell_later hs3 c_f_5
  replace c_f_6 := cell_later hs3 c_f_6
  replace c_f_7 := cell_later hs3 c_f_7
  replace c_f_8 := cell_later hs3 c_f_8
  clear z_e
  have z_e := World.block_lt_of_cell? _ _ c_e_0
  clear z_f
  have z_f := World.block_lt_of_cell? _ _ c_f_0
  have hB3 := below_two hB2 hs3
  clear hB2 hs3
  have hgV := guardV
  have heV := eql_vl
  go_wp2
  go_ret
  exact ⟨rfl, hB3⟩

set_option maxRecDepth 100000 in
set_option maxHeartbeats 4000000 in
theorem esame_6 (x y : Ev) (vp vt vm up ut um : Value) (w : World) (h : EvR w vp vt vm x) (h2 : EvR w up ut um y) (HP : Hid (decide (x.ps = y.ps) = true)) (HT : Hid (decide (x.ts = y.ts) = true)) (HM : Hid (decide (x.ms = y.ms) = true)) (hk : (x.k == y.k) = true) (hv : eqV x.b x.d x.n x.e y.b y.d y.n y.e = true) (hs : (x.s.toList == y.s.toList) = true) :
    Calls Tryd.prog 38 #[evv x vp vt vm, evv y up ut um] w fun ed w' => ed = .returned (.bool true) ∧ Below w.heap.size w w' := by
  obtain ⟨k, ps, ts, b, d, n, e0, ms, str⟩ := x
  obtain ⟨k', ps', ts', b', d', n', e0', ms', str'⟩ := y
  obtain ⟨hps, hts, hms, hsz⟩ := h
  obtain ⟨hps', hts', hms', hsz'⟩ := h2
  dsimp only at hps hts hms hsz hps' hts' hms' hsz' HP HT HM hk hv hs ⊢
  have Hps := Lib.hid hps
  obtain ⟨pps, cps, rfl, lps⟩ := sl_shape hps
  have Hts := Lib.hid hts
  obtain ⟨pts, cts, rfl, lts⟩ := sl_shape hts
  have Hms := Lib.hid hms
  obtain ⟨pms, cms, rfl, lms⟩ := sl_shape hms
  have Hps' := Lib.hid hps'
  obtain ⟨pps', cps', rfl, lps'⟩ := sl_shape hps'
  have Hts' := Lib.hid hts'
  obtain ⟨pts', cts', rfl, lts'⟩ := sl_shape hts'
  have Hms' := Lib.hid hms'
  obtain ⟨pms', cms', rfl, lms'⟩ := sl_shape hms'
  clear hps hts hms hps' hts' hms'
  have hB0 : Below w.heap.size w w := Below.refl _ _
  go_enter Tryd.func38, Tryd.ntmps38
  go_wp2_with fail
  refine (alikeP_is HP.out _ (Hps.out.later (by repeat (first | exact Below.refl _ _ | refine Below.alloc ?_ (by simp <;> omega) _))) (Hps'.out.later (by repeat (first | exact Below.refl _ _ | refine Below.alloc ?_ (by simp <;> omega) _)))).mono ?_
  rintro e w1 ⟨rfl, hb1⟩
  have hs1 : Below w.heap.size w w1 := Below.trans (by repeat (first | exact Below.refl _ _ | refine Below.alloc ?_ (by simp <;> omega) _)) (hb1.mono (by simp <;> omega))
  replace Hps := Lib.hid (Hps.out.later hs1)
  replace Hts := Lib.hid (Hts.out.later hs1)
  replace Hms := Lib.hid (Hms.out.later hs1)
  replace Hps' := Lib.hid (Hps'.out.later hs1)
  replace Hts' := Lib.hid (Hts'.out.later hs1)
  replace Hms' := Lib.hid (Hms'.out.later hs1)
  have c_e_0 : w1.cell? ⟨w.heap.size, 0, none⟩ = some (.int .i64 k) := (hb1.cell (by simp <;> omega)).trans (by go_simp)
  have c_e_1 : w1.cell? ⟨w.heap.size, 1, none⟩ = some (.slice pps ps.length cps) := (hb1.cell (by simp <;> omega)).trans (by go_simp)
  have c_e_2 : w1.cell? ⟨w.heap.size, 2, none⟩ = some (.slice pts ts.length cts) := (hb1.cell (by simp <;> omega)).trans (by go_simp)
  have c_e_3 : w1.cell? ⟨w.heap.size, 3, none⟩ = some (.int .i64 b) := (hb1.cell (by simp <;> omega)).trans (by go_simp)
  have c_e_4 : w1.cell? ⟨w.heap.size, 4, none⟩ = some (.int .i64 d) := (hb1.cell (by simp <;> omega)).trans (by go_simp)
  have c_e_5 : w1.cell? ⟨w.heap.size, 5, none⟩ = some (.int .i64 n) := (hb1.cell (by simp <;> omega)).trans (by go_simp)
  have c_e_6 : w1.cell? ⟨w.heap.size, 6, none⟩ = some (.int .i64 e0) := (hb1.cell (by simp <;> omega)).trans (by go_simp)
  have c_e_7 : w1.cell? ⟨w.heap.size, 7, none⟩ = some (.slice pms ms.length cms) := (hb1.cell (by simp <;> omega)).trans (by go_simp)
  have c_e_8 : w1.cell? ⟨w.heap.size, 8, none⟩ = some (.string str) := (hb1.cell (by simp <;> omega)).trans (by go_simp)
  have c_f_0 : w1.cell? ⟨w.heap.size + 1, 0, none⟩ = some (.int .i64 k') := (hb1.cell (by simp <;> omega)).trans (by go_simp)
  have c_f_1 : w1.cell? ⟨w.heap.size + 1, 1, none⟩ = some (.slice pps' ps'.length cps') := (hb1.cell (by simp <;> omega)).trans (by go_simp)
  have c_f_2 : w1.cell? ⟨w.heap.size + 1, 2, none⟩ = some (.slice pts' ts'.length cts') := (hb1.cell (by simp <;> omega)).trans (by go_simp)
  have c_f_3 : w1.cell? ⟨w.heap.size + 1, 3, none⟩ = some (.int .i64 b') := (hb1.cell (by simp <;> omega)).trans (by go_simp)
  have c_f_4 : w1.cell? ⟨w.heap.size + 1, 4, none⟩ = some (.int .i64 d') := (hb1.cell (by simp <;> omega)).trans (by go_simp)
  have c_f_5 : w1.cell? ⟨w.heap.size + 1, 5, none⟩ = some (.int .i64 n') := (hb1.cell (by simp <;> omega)).trans (by go_simp)
  have c_f_6 : w1.cell? ⟨w.heap.size + 1, 6, none⟩ = some (.int .i64 e0') := (hb1.cell (by simp <;> omega)).trans (by go_simp)
  have c_f_7 : w1.cell? ⟨w.heap.size + 1, 7, none⟩ = some (.slice pms' ms'.length cms') := (hb1.cell (by simp <;> omega)).trans (by go_simp)
  have c_f_8 : w1.cell? ⟨w.heap.size + 1, 8, none⟩ = some (.string str') := (hb1.cell (by simp <;> omega)).trans (by go_simp)
  have z_e := World.block_lt_of_cell? _ _ c_e_0
  have z_f := World.block_lt_of_cell? _ _ c_f_0
  have hB1 := below_two hB0 hs1
  clear hB0 hs1 hb1
  go_wp2_with fail
  refine (alikeB_is HT.out _ Hts.out Hts'.out).mono ?_
  rintro e w2 ⟨rfl, hb2⟩
  have hs2 := hb2
  replace Hps := Lib.hid (Hps.out.later hs2)
  replace Hts := Lib.hid (Hts.out.later hs2)
  replace Hms := Lib.hid (Hms.out.later hs2)
  replace Hps' := Lib.hid (Hps'.out.later hs2)
  replace Hts' := Lib.hid (Hts'.out.later hs2)
  replace Hms' := Lib.hid (Hms'.out.later hs2)
  replace c_e_0 := cell_later hs2 c_e_0
  replace c_e_1 := cell_later hs2 c_e_1
  replace c_e_2 := cell_later hs2 c_e_2
  replace c_e_3 := cell_later hs2 c_e_3
  replace c_e_4 := cell_later hs2 c_e_4
  replace c_e_5 := cell_later hs2 c_e_5
  replace c_e_6 := cell_later hs2 c_e_6
  replace c_e_7 := cell_later hs2 c_e_7
  replace c_e_8 := cell_later hs2 c_e_8
  replace c_f_0 := cell_later hs2 c_f_0
  replace c_f_1 := cell_later hs2 c_f_1
  replace c_f_2 := cell_later hs2 c_f_2
  replace c_f_3 := cell_later hs2 c_f_3
  replace c_f_4 := cell_later hs2 c_f_4
  replace c_f_5 := cell_later hs2 c_f_5
  replace c_f_6 := cell_later hs2 c_f_6
  replace c_f_7 := cell_later hs2 c_f_7
  replace c_f_8 := cell_later hs2 c_f_8
  clear z_e
  have z_e := World.block_lt_of_cell? _ _ c_e_0
  clear z_f
  have z_f := World.block_lt_of_cell? _ _ c_f_0
  have hB2 := below_two hB1 hs2
  clear hB1 hs2
  go_wp2_with fail
  refine (alikeI_is HM.out _ Hms.out Hms'.out).mono ?_
  rintro e w3 ⟨rfl, hb3⟩
  have hs3 := hb3
  replace Hps := Lib.hid (Hps.out.later hs3)
  replace Hts := Lib.hid (Hts.out.later hs3)
  replace Hms := Lib.hid (Hms.out.later hs3)
  replace Hps' := Lib.hid (Hps'.out.later hs3)
  replace Hts' := Lib.hid (Hts'.out.later hs3)
  replace Hms' := Lib.hid (Hms'.out.later hs3)
  replace c_e_0 := cell_later hs3 c_e_0
  replace c_e_1 := cell_later hs3 c_e_1
  replace c_e_2 := cell_later hs3 c_e_2
  replace c_e_3 := cell_later hs3 c_e_3
  replace c_e_4 := cell_later hs3 c_e_4
  replace c_e_5 := cell_later hs3 c_e_5
  replace c_e_6 := cell_later hs3 c_e_6
  replace c_e_7 := cell_later hs3 c_e_7
  replace c_e_8 := cell_later hs3 c_e_8
  replace c_f_0 := cell_later hs3 c_f_0
  replace c_f_1 := cell_later hs3 c_f_1
  replace c_f_2 := cell_later hs3 c_f_2
  replace c_f_3 := cell_later hs3 c_f_3
  replace c_f_4 := cell_later hs3 c_f_4
  replace c_f_5 := cell_later hs3 c_f_5
  replace c_f_6 := cell_later hs3 c_f_6
  replace c_f_7 := cell_later hs3 c_f_7
  replace c_f_8 := cell_later hs3 c_f_8
  clear z_e
  have z_e := World.block_lt_of_cell? _ _ c_e_0
  clear z_f
  have z_f := World.block_lt_of_cell? _ _ c_f_0
  have hB3 := below_two hB2 hs3
  clear hB2 hs3
  have hgV := guardV
  have heV := eql_vl
  go_wp2
  go_ret
  exact ⟨rfl, hB3⟩

theorem esame_any (x y : Ev) (vp vt vm up ut um : Value) (w : World) (h : EvR w vp vt vm x) (h2 : EvR w up ut um y) : Calls Tryd.prog 38 #[evv x vp vt vm, evv y up ut um] w fun ed w' => ed = .returned (.bool (sameE x y)) ∧ Below w.heap.size w w' := by
  unfold sameE
  cases hp : decide (x.ps = y.ps)
  · exact esame_0 x y _ _ _ _ _ _ w h h2 (Lib.hid hp)
  cases ht : decide (x.ts = y.ts)
  · exact esame_1 x y _ _ _ _ _ _ w h h2 (Lib.hid hp) (Lib.hid ht)
  cases hm : decide (x.ms = y.ms)
  · exact esame_2 x y _ _ _ _ _ _ w h h2 (Lib.hid hp) (Lib.hid ht) (Lib.hid hm)
  by_cases hk : x.k = y.k
  case neg => rw [decide_eq_false hk]; exact esame_3 x y _ _ _ _ _ _ w h h2 (Lib.hid hp) (Lib.hid ht) (Lib.hid hm) (by simpa using hk)
  case pos =>
  rw [decide_eq_true hk]
  have hk' : (x.k == y.k) = true := by simpa using hk
  cases hv : eqV x.b x.d x.n x.e y.b y.d y.n y.e
  · exact esame_4 x y _ _ _ _ _ _ w h h2 (Lib.hid hp) (Lib.hid ht) (Lib.hid hm) hk' hv
  by_cases hs : x.s = y.s
  · rw [decide_eq_true hs]; exact esame_6 x y _ _ _ _ _ _ w h h2 (Lib.hid hp) (Lib.hid ht) (Lib.hid hm) hk' hv (str_eq hs)
  · rw [decide_eq_false hs]; exact esame_5 x y _ _ _ _ _ _ w h h2 (Lib.hid hp) (Lib.hid ht) (Lib.hid hm) hk' hv (str_ne hs)
theorem esame_is {x y : Ev} {q : Bool} (hq : sameE x y = q) (vp vt vm up ut um : Value) (w : World) (h : EvR w vp vt vm x) (h2 : EvR w up ut um y) : Calls Tryd.prog 38 #[evv x vp vt vm, evv y up ut um] w fun ed w' => ed = .returned (.bool q) ∧ Below w.heap.size w w' := by subst hq; exact esame_any x y _ _ _ _ _ _ w h h2
end Go.Proofs.YtnfnonlbokddfaaDoor
