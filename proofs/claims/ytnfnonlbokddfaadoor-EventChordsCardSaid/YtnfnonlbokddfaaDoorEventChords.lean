/-
  EventChords answers true: the law's walk.
-/
import Derived.Test.YtnfnonlbokddfaaDoorEvLaw
import Derived.Test.YtnfnonlbokddfaaDoorEvRefS
import Derived.Test.YtnfnonlbokddfaaDoorEvRefC
namespace Go.Proofs.YtnfnonlbokddfaaDoor
open Go.RowKit
open Evt (P3 Ev)

theorem chords_zero {l : List Ev} {Z : Ev} {er : Int} (h : Evt.chordE l = (Z, er)) (h0 : er ≠ 0) : Z = Evt.zero := by
  cases l with
  | nil => cases h; rfl
  | cons x l =>
    rw [Evt.chordE_cons] at h
    cases h1 : (x :: l).all Evt.right
    · rw [h1] at h; cases h; rfl
    cases h2 : (x :: l).all (Evt.sameVal x)
    · rw [h1, h2] at h; cases h; rfl
    rw [h1, h2] at h
    have h : Evt.rightAlone (Evt.one x l) = (Z, er) := h
    unfold Evt.rightAlone at h
    cases hr : Evt.right (Evt.one x l)
    · rw [hr] at h; cases h; rfl
    rw [hr] at h
    exact absurd (Prod.mk.inj h).2.symm h0
theorem refChord_is {ys : List EM} {x : Ev} {e : Int} (hx : Evt.chordE (ys.map Prod.fst) = (x, e)) (v : Value) (w : World) (h : Evs w v ys) (hl : ys.length ≤ 6) : Calls Tryd.prog 19 #[v] w (EvRes (x, e) w) := by rw [← hx]; exact refChord_walk v ys w h (Lib.hid hl)

set_option maxRecDepth 100000 in
set_option maxHeartbeats 40000000 in
theorem chords_few (v : Value) (ys : List EM) (w : World) (h : Evs w v ys) (hR : Ready w) (hq : fewL (ys.map Prod.fst) = false) :
    Calls Tryd.prog 4 #[v] w fun ed w' => ed = .returned (.bool true) ∧ Below w.heap.size w w' := by
  have HC := Lib.hid h
  obtain ⟨p0, c0, rfl, hl1⟩ := sl_shape h.row
  clear h
  have HQ := Lib.hid hq
  clear hq
  have hB0 : Below w.heap.size w w := Below.refl _ _
  go_enter Tryd.func4, Tryd.ntmps4
  go_wp2_with fail
  have hR' := hR.below hB0
  refine (awake_any _ hR').mono ?_
  rintro e w1 ⟨rfl, hb1⟩
  clear hR'
  have hs1 := hb1
  have hB1 := below_two hB0 hs1
  clear hB0 hs1
  go_wp2_with fail
  have hR' := hR.below hB1
  refine (fewL_is HQ.out _ _ (HC.out.later hB1)).mono ?_
  rintro e w2 ⟨rfl, hb2⟩
  clear hR'
  have hs2 := hb2
  have hB2 := below_two hB1 hs2
  clear hB1 hs2
  go_wp2
  go_ret
  exact ⟨rfl, hB2⟩

set_option maxRecDepth 100000 in
set_option maxHeartbeats 40000000 in
theorem chords_bad (v : Value) (ys : List EM) (er : Int) (w : World) (h : Evs w v ys) (hR : Ready w) (hq : fewL (ys.map Prod.fst) = true) (hch : Evt.chordE (ys.map Prod.fst) = (Evt.zero, er)) (h6 : ys.length ≤ 6) :
    Calls Tryd.prog 4 #[v] w fun ed w' => ed = .returned (.bool true) ∧ Below w.heap.size w w' := by
  have HC := Lib.hid h
  obtain ⟨p0, c0, rfl, hl1⟩ := sl_shape h.row
  clear h
  have HQ := Lib.hid hq
  clear hq
  have HCH := Lib.hid hch
  clear hch
  have H6 := Lib.hid h6
  clear h6
  have hB0 : Below w.heap.size w w := Below.refl _ _
  go_enter Tryd.func4, Tryd.ntmps4
  go_wp2_with fail
  have hR' := hR.below hB0
  refine (awake_any _ hR').mono ?_
  rintro e w1 ⟨rfl, hb1⟩
  clear hR'
  have hs1 := hb1
  have hB1 := below_two hB0 hs1
  clear hB0 hs1
  go_wp2_with fail
  have hR' := hR.below hB1
  refine (fewL_is HQ.out _ _ (HC.out.later hB1)).mono ?_
  rintro e w2 ⟨rfl, hb2⟩
  clear hR'
  have hs2 := hb2
  have hB2 := below_two hB1 hs2
  clear hB1 hs2
  go_wp2_with fail
  have hR' := hR.below hB2
  refine (chord_is (ys := ys) HCH.out _ _ (HC.out.later hB2) (by have := H6.out; omega) hR').mono ?_
  rintro e w3 ⟨vp, vt, vm, rfl, hev, hb3⟩
  clear hR'
  have hs3 := hb3
  have hB3 := below_two hB2 hs3
  clear hB2 hs3
  dsimp only at hev
  obtain ⟨pa, ca, e3, _⟩ := sl_shape hev.ps
  have e3 : vp = .slice pa 0 ca := e3
  obtain ⟨qa, da, e4, _⟩ := sl_shape hev.ts
  have e4 : vt = .slice qa 0 da := e4
  obtain ⟨ra, fa, e5, _⟩ := sl_shape hev.ms
  have e5 : vm = .slice ra 0 fa := e5
  subst e3 e4 e5
  have HVa := Lib.hid hev
  have SVa : Hid (Since w3 w3) := Lib.hid (Since.refl _)
  clear hev
  go_wp2_with fail
  have hR' := hR.below (hB3.alloc hB3.size (.cells #[.int .i64 Evt.zero.k, .slice pa 0 ca, .slice qa 0 da, .int .i64 Evt.zero.b, .int .i64 Evt.zero.d, .int .i64 Evt.zero.n, .int .i64 Evt.zero.e, .slice ra 0 fa, .string Evt.zero.s] 28))
  refine (refChord_is (ys := ys) HCH.out _ _ (HC.out.later (hB3.alloc hB3.size (.cells #[.int .i64 Evt.zero.k, .slice pa 0 ca, .slice qa 0 da, .int .i64 Evt.zero.b, .int .i64 Evt.zero.d, .int .i64 Evt.zero.n, .int .i64 Evt.zero.e, .slice ra 0 fa, .string Evt.zero.s] 28))) H6.out).mono ?_
  rintro e w4 ⟨vp, vt, vm, rfl, hev, hb4⟩
  clear hR'
  have hs4 : Below w3.heap.size w3 w4 := Below.trans (by repeat (first | exact Below.refl _ _ | refine Below.alloc ?_ (by simp <;> omega) _)) (hb4.mono (by simp <;> omega))
  replace SVa := Lib.hid (SVa.out.later hs4)
  have c_a_0 : w4.cell? ⟨w3.heap.size, 0, none⟩ = some (.int .i64 Evt.zero.k) := (hb4.cell (by simp <;> omega)).trans (by go_simp)
  have c_a_1 : w4.cell? ⟨w3.heap.size, 1, none⟩ = some (.slice pa 0 ca) := (hb4.cell (by simp <;> omega)).trans (by go_simp)
  have c_a_2 : w4.cell? ⟨w3.heap.size, 2, none⟩ = some (.slice qa 0 da) := (hb4.cell (by simp <;> omega)).trans (by go_simp)
  have c_a_3 : w4.cell? ⟨w3.heap.size, 3, none⟩ = some (.int .i64 Evt.zero.b) := (hb4.cell (by simp <;> omega)).trans (by go_simp)
  have c_a_4 : w4.cell? ⟨w3.heap.size, 4, none⟩ = some (.int .i64 Evt.zero.d) := (hb4.cell (by simp <;> omega)).trans (by go_simp)
  have c_a_5 : w4.cell? ⟨w3.heap.size, 5, none⟩ = some (.int .i64 Evt.zero.n) := (hb4.cell (by simp <;> omega)).trans (by go_simp)
  have c_a_6 : w4.cell? ⟨w3.heap.size, 6, none⟩ = some (.int .i64 Evt.zero.e) := (hb4.cell (by simp <;> omega)).trans (by go_simp)
  have c_a_7 : w4.cell? ⟨w3.heap.size, 7, none⟩ = some (.slice ra 0 fa) := (hb4.cell (by simp <;> omega)).trans (by go_simp)
  have c_a_8 : w4.cell? ⟨w3.heap.size, 8, none⟩ = some (.string Evt.zero.s) := (hb4.cell (by simp <;> omega)).trans (by go_simp)
  have z_a : w3.heap.size < _ := World.block_lt_of_cell? _ _ c_a_0
  have hB4 := below_two hB3 hs4
  clear hB3 hs4 hb4
  dsimp only at hev
  obtain ⟨pb, cb, e3, _⟩ := sl_shape hev.ps
  have e3 : vp = .slice pb 0 cb := e3
  obtain ⟨qb, db, e4, _⟩ := sl_shape hev.ts
  have e4 : vt = .slice qb 0 db := e4
  obtain ⟨rb, fb, e5, _⟩ := sl_shape hev.ms
  have e5 : vm = .slice rb 0 fb := e5
  subst e3 e4 e5
  have HVb := Lib.hid hev
  have SVb : Hid (Since w4 w4) := Lib.hid (Since.refl _)
  clear hev
  go_wp2_with fail
  have hR' := hR.below (hB4.alloc hB4.size (.cells #[.int .i64 Evt.zero.k, .slice pb 0 cb, .slice qb 0 db, .int .i64 Evt.zero.b, .int .i64 Evt.zero.d, .int .i64 Evt.zero.n, .int .i64 Evt.zero.e, .slice rb 0 fb, .string Evt.zero.s] 28))
  refine (refSame_is (x := Evt.zero) (y := Evt.zero) (sameE_self _) _ _ _ _ _ _ _ (HVa.out.later (below_two SVa.out (by repeat (first | exact Below.refl _ _ | refine Below.alloc ?_ (by simp <;> omega) _)))) (HVb.out.later (below_two SVb.out (by repeat (first | exact Below.refl _ _ | refine Below.alloc ?_ (by simp <;> omega) _))))).mono ?_
  rintro e w5 ⟨rfl, hb5⟩
  clear hR'
  have y5_a := z_a
  have hs5 : Below w4.heap.size w4 w5 := Below.trans (by repeat (first | exact Below.refl _ _ | refine Below.alloc ?_ (by simp <;> omega) _)) (hb5.mono (by simp <;> omega))
  replace SVa := Lib.hid (SVa.out.later hs5)
  replace SVb := Lib.hid (SVb.out.later hs5)
  replace c_a_0 := cell_later hs5 c_a_0
  replace c_a_1 := cell_later hs5 c_a_1
  replace c_a_2 := cell_later hs5 c_a_2
  replace c_a_3 := cell_later hs5 c_a_3
  replace c_a_4 := cell_later hs5 c_a_4
  replace c_a_5 := cell_later hs5 c_a_5
  replace c_a_6 := cell_later hs5 c_a_6
  replace c_a_7 := cell_later hs5 c_a_7
  replace c_a_8 := cell_later hs5 c_a_8
  have c_b_0 : w5.cell? ⟨w4.heap.size, 0, none⟩ = some (.int .i64 Evt.zero.k) := (hb5.cell (by simp <;> omega)).trans (by go_simp)
  have c_b_1 : w5.cell? ⟨w4.heap.size, 1, none⟩ = some (.slice pb 0 cb) := (hb5.cell (by simp <;> omega)).trans (by go_simp)
  have c_b_2 : w5.cell? ⟨w4.heap.size, 2, none⟩ = some (.slice qb 0 db) := (hb5.cell (by simp <;> omega)).trans (by go_simp)
  have c_b_3 : w5.cell? ⟨w4.heap.size, 3, none⟩ = some (.int .i64 Evt.zero.b) := (hb5.cell (by simp <;> omega)).trans (by go_simp)
  have c_b_4 : w5.cell? ⟨w4.heap.size, 4, none⟩ = some (.int .i64 Evt.zero.d) := (hb5.cell (by simp <;> omega)).trans (by go_simp)
  have c_b_5 : w5.cell? ⟨w4.heap.size, 5, none⟩ = some (.int .i64 Evt.zero.n) := (hb5.cell (by simp <;> omega)).trans (by go_simp)
  have c_b_6 : w5.cell? ⟨w4.heap.size, 6, none⟩ = some (.int .i64 Evt.zero.e) := (hb5.cell (by simp <;> omega)).trans (by go_simp)
  have c_b_7 : w5.cell? ⟨w4.heap.size, 7, none⟩ = some (.slice rb 0 fb) := (hb5.cell (by simp <;> omega)).trans (by go_simp)
  have c_b_8 : w5.cell? ⟨w4.heap.size, 8, none⟩ = some (.string Evt.zero.s) := (hb5.cell (by simp <;> omega)).trans (by go_simp)
  clear z_a
  have z_a : w3.heap.size < _ := World.block_lt_of_cell? _ _ c_a_0
  have z_b : w4.heap.size < _ := World.block_lt_of_cell? _ _ c_b_0
  have hB5 := below_two hB4 hs5
  clear hB4 hs5 hb5
  go_wp2
  go_ret
  exact ⟨rfl, hB5⟩

set_option maxRecDepth 100000 in
set_option maxHeartbeats 40000000 in
theorem chords_ok (v : Value) (ys : List EM) (Z : Ev) (w : World) (h : Evs w v ys) (hR : Ready w) (hq : fewL (ys.map Prod.fst) = true) (hch : Evt.chordE (ys.map Prod.fst) = (Z, 0)) (h6 : ys.length ≤ 6) :
    Calls Tryd.prog 4 #[v] w fun ed w' => ed = .returned (.bool true) ∧ Below w.heap.size w w' := by
  have HC := Lib.hid h
  obtain ⟨p0, c0, rfl, hl1⟩ := sl_shape h.row
  clear h
  have HQ := Lib.hid hq
  clear hq
  have HCH := Lib.hid hch
  clear hch
  have H6 := Lib.hid h6
  clear h6
  have hB0 : Below w.heap.size w w := Below.refl _ _
  go_enter Tryd.func4, Tryd.ntmps4
  go_wp2_with fail
  have hR' := hR.below hB0
  refine (awake_any _ hR').mono ?_
  rintro e w1 ⟨rfl, hb1⟩
  clear hR'
  have hs1 := hb1
  have hB1 := below_two hB0 hs1
  clear hB0 hs1
  go_wp2_with fail
  have hR' := hR.below hB1
  refine (fewL_is HQ.out _ _ (HC.out.later hB1)).mono ?_
  rintro e w2 ⟨rfl, hb2⟩
  clear hR'
  have hs2 := hb2
  have hB2 := below_two hB1 hs2
  clear hB1 hs2
  go_wp2_with fail
  have hR' := hR.below hB2
  refine (chord_is (ys := ys) HCH.out _ _ (HC.out.later hB2) (by have := H6.out; omega) hR').mono ?_
  rintro e w3 ⟨vp, vt, vm, rfl, hev, hb3⟩
  clear hR'
  have hs3 := hb3
  have hB3 := below_two hB2 hs3
  clear hB2 hs3
  dsimp only at hev
  obtain ⟨pa, ca, e3, _⟩ := sl_shape hev.ps
  obtain ⟨qa, da, e4, _⟩ := sl_shape hev.ts
  obtain ⟨ra, fa, e5, _⟩ := sl_shape hev.ms
  subst e3 e4 e5
  have HVa := Lib.hid hev
  have SVa : Hid (Since w3 w3) := Lib.hid (Since.refl _)
  clear hev
  go_wp2_with fail
  have hR' := hR.below (hB3.alloc hB3.size (.cells #[.int .i64 Z.k, .slice pa Z.ps.length ca, .slice qa Z.ts.length da, .int .i64 Z.b, .int .i64 Z.d, .int .i64 Z.n, .int .i64 Z.e, .slice ra Z.ms.length fa, .string Z.s] 28))
  refine (refChord_is (ys := ys) HCH.out _ _ (HC.out.later (hB3.alloc hB3.size (.cells #[.int .i64 Z.k, .slice pa Z.ps.length ca, .slice qa Z.ts.length da, .int .i64 Z.b, .int .i64 Z.d, .int .i64 Z.n, .int .i64 Z.e, .slice ra Z.ms.length fa, .string Z.s] 28))) H6.out).mono ?_
  rintro e w4 ⟨vp, vt, vm, rfl, hev, hb4⟩
  clear hR'
  have hs4 : Below w3.heap.size w3 w4 := Below.trans (by repeat (first | exact Below.refl _ _ | refine Below.alloc ?_ (by simp <;> omega) _)) (hb4.mono (by simp <;> omega))
  replace SVa := Lib.hid (SVa.out.later hs4)
  have c_a_0 : w4.cell? ⟨w3.heap.size, 0, none⟩ = some (.int .i64 Z.k) := (hb4.cell (by simp <;> omega)).trans (by go_simp)
  have c_a_1 : w4.cell? ⟨w3.heap.size, 1, none⟩ = some (.slice pa Z.ps.length ca) := (hb4.cell (by simp <;> omega)).trans (by go_simp)
  have c_a_2 : w4.cell? ⟨w3.heap.size, 2, none⟩ = some (.slice qa Z.ts.length da) := (hb4.cell (by simp <;> omega)).trans (by go_simp)
  have c_a_3 : w4.cell? ⟨w3.heap.size, 3, none⟩ = some (.int .i64 Z.b) := (hb4.cell (by simp <;> omega)).trans (by go_simp)
  have c_a_4 : w4.cell? ⟨w3.heap.size, 4, none⟩ = some (.int .i64 Z.d) := (hb4.cell (by simp <;> omega)).trans (by go_simp)
  have c_a_5 : w4.cell? ⟨w3.heap.size, 5, none⟩ = some (.int .i64 Z.n) := (hb4.cell (by simp <;> omega)).trans (by go_simp)
  have c_a_6 : w4.cell? ⟨w3.heap.size, 6, none⟩ = some (.int .i64 Z.e) := (hb4.cell (by simp <;> omega)).trans (by go_simp)
  have c_a_7 : w4.cell? ⟨w3.heap.size, 7, none⟩ = some (.slice ra Z.ms.length fa) := (hb4.cell (by simp <;> omega)).trans (by go_simp)
  have c_a_8 : w4.cell? ⟨w3.heap.size, 8, none⟩ = some (.string Z.s) := (hb4.cell (by simp <;> omega)).trans (by go_simp)
  have z_a : w3.heap.size < _ := World.block_lt_of_cell? _ _ c_a_0
  have hB4 := below_two hB3 hs4
  clear hB3 hs4 hb4
  dsimp only at hev
  obtain ⟨pb, cb, e3, _⟩ := sl_shape hev.ps
  obtain ⟨qb, db, e4, _⟩ := sl_shape hev.ts
  obtain ⟨rb, fb, e5, _⟩ := sl_shape hev.ms
  subst e3 e4 e5
  have HVb := Lib.hid hev
  have SVb : Hid (Since w4 w4) := Lib.hid (Since.refl _)
  clear hev
  go_wp2_with fail
  have hR' := hR.below (hB4.alloc hB4.size (.cells #[.int .i64 Z.k, .slice pb Z.ps.length cb, .slice qb Z.ts.length db, .int .i64 Z.b, .int .i64 Z.d, .int .i64 Z.n, .int .i64 Z.e, .slice rb Z.ms.length fb, .string Z.s] 28))
  refine (refSame_is (x := Z) (y := Z) (sameE_self _) _ _ _ _ _ _ _ (HVa.out.later (below_two SVa.out (by repeat (first | exact Below.refl _ _ | refine Below.alloc ?_ (by simp <;> omega) _)))) (HVb.out.later (below_two SVb.out (by repeat (first | exact Below.refl _ _ | refine Below.alloc ?_ (by simp <;> omega) _))))).mono ?_
  rintro e w5 ⟨rfl, hb5⟩
  clear hR'
  have y5_a := z_a
  have hs5 : Below w4.heap.size w4 w5 := Below.trans (by repeat (first | exact Below.refl _ _ | refine Below.alloc ?_ (by simp <;> omega) _)) (hb5.mono (by simp <;> omega))
  replace SVa := Lib.hid (SVa.out.later hs5)
  replace SVb := Lib.hid (SVb.out.later hs5)
  replace c_a_0 := cell_later hs5 c_a_0
  replace c_a_1 := cell_later hs5 c_a_1
  replace c_a_2 := cell_later hs5 c_a_2
  replace c_a_3 := cell_later hs5 c_a_3
  replace c_a_4 := cell_later hs5 c_a_4
  replace c_a_5 := cell_later hs5 c_a_5
  replace c_a_6 := cell_later hs5 c_a_6
  replace c_a_7 := cell_later hs5 c_a_7
  replace c_a_8 := cell_later hs5 c_a_8
  have c_b_0 : w5.cell? ⟨w4.heap.size, 0, none⟩ = some (.int .i64 Z.k) := (hb5.cell (by simp <;> omega)).trans (by go_simp)
  have c_b_1 : w5.cell? ⟨w4.heap.size, 1, none⟩ = some (.slice pb Z.ps.length cb) := (hb5.cell (by simp <;> omega)).trans (by go_simp)
  have c_b_2 : w5.cell? ⟨w4.heap.size, 2, none⟩ = some (.slice qb Z.ts.length db) := (hb5.cell (by simp <;> omega)).trans (by go_simp)
  have c_b_3 : w5.cell? ⟨w4.heap.size, 3, none⟩ = some (.int .i64 Z.b) := (hb5.cell (by simp <;> omega)).trans (by go_simp)
  have c_b_4 : w5.cell? ⟨w4.heap.size, 4, none⟩ = some (.int .i64 Z.d) := (hb5.cell (by simp <;> omega)).trans (by go_simp)
  have c_b_5 : w5.cell? ⟨w4.heap.size, 5, none⟩ = some (.int .i64 Z.n) := (hb5.cell (by simp <;> omega)).trans (by go_simp)
  have c_b_6 : w5.cell? ⟨w4.heap.size, 6, none⟩ = some (.int .i64 Z.e) := (hb5.cell (by simp <;> omega)).trans (by go_simp)
  have c_b_7 : w5.cell? ⟨w4.heap.size, 7, none⟩ = some (.slice rb Z.ms.length fb) := (hb5.cell (by simp <;> omega)).trans (by go_simp)
  have c_b_8 : w5.cell? ⟨w4.heap.size, 8, none⟩ = some (.string Z.s) := (hb5.cell (by simp <;> omega)).trans (by go_simp)
  clear z_a
  have z_a : w3.heap.size < _ := World.block_lt_of_cell? _ _ c_a_0
  have z_b : w4.heap.size < _ := World.block_lt_of_cell? _ _ c_b_0
  have hB5 := below_two hB4 hs5
  clear hB4 hs5 hb5
  go_wp2
  go_ret
  exact ⟨rfl, hB5⟩

theorem chords_any (v : Value) (ys : List EM) (w : World) (h : Evs w v ys) (hR : Ready w) : Calls Tryd.prog 4 #[v] w fun ed w' => ed = .returned (.bool true) ∧ Below w.heap.size w w' := by
  cases hq : fewL (ys.map Prod.fst)
  · exact chords_few v ys w h hR hq
  have h6 : ys.length ≤ 6 := by
    have h := hq
    unfold fewL at h
    rw [Bool.and_eq_true, decide_eq_true_iff, List.length_map] at h
    exact h.1
  by_cases h0 : (Evt.chordE (ys.map Prod.fst)).2 = 0
  · have hu : Evt.chordE (ys.map Prod.fst) = ((Evt.chordE (ys.map Prod.fst)).1, 0) := by rw [← h0]
    exact chords_ok v ys (Evt.chordE (ys.map Prod.fst)).1 w h hR hq hu h6
  · have hz := chords_zero (l := ys.map Prod.fst) (Z := (Evt.chordE (ys.map Prod.fst)).1) (er := (Evt.chordE (ys.map Prod.fst)).2) rfl h0
    exact chords_bad v ys (Evt.chordE (ys.map Prod.fst)).2 w h hR hq (by rw [← hz]) h6
end Go.Proofs.YtnfnonlbokddfaaDoor
