/-
  The contracts of the reference's Right, Length and Tied.
-/
import Derived.Test.YtnfnonlbokddfaaDoorEvH
import Derived.Test.YtnfnonlbokddfaaDoorEvPlain
import Derived.Test.YtnfnonlbokddfaaDoorEvRefM
import Derived.Test.YtnfnonlbokddfaaDoorEvPitRef
import Derived.Test.YtnfnonlbokddfaaDoorEvValRef
import Derived.Test.YtnfnonlbokddfaaDoorEvSum
namespace Go.Proofs.YtnfnonlbokddfaaDoor
open Go.RowKit
open Evt (P3 Ev)

theorem vref_is {b d n e : Int} {q : Bool} (h : Val.ok b d n e = q) (w : World) : Calls Tryd.prog 80 #[vl b d n e] w fun e' w' => e' = .returned (.bool q) ∧ Below w.heap.size w w' := by subst h; exact vrefRight_any _ _ _ _ w
theorem pref_is {p : P3} {q : Bool} (h : Evt.rgt p = q) (w : World) : Calls Tryd.prog 83 #[pt p.1 p.2.1 p.2.2] w fun e w' => e = .returned (.bool q) ∧ Below w.heap.size w w' := by subst h; exact refRight_any _ _ _ w
theorem cref_is {p q : P3} {c : Int} (h : Evt.cp p q = c) (w : World) : Calls Tryd.prog 84 #[pt p.1 p.2.1 p.2.2, pt q.1 q.2.1 q.2.2] w fun e w' => e = .returned (.int .i64 c) ∧ Below w.heap.size w w' := by subst h; exact refCompare_any _ _ _ _ _ _ w
def RgRel (xs : List P3) (w : World) (i : Value) (wr : World) : Prop := ∃ k : Nat, k ≤ xs.length ∧ i = .int .i64 (k : Int) ∧ (xs.take k).all Evt.rgt = true ∧ Evt.rise Evt.cp (xs.take k) = true ∧ Below w.heap.size w wr
theorem ferm_all {l : List Int} (h : Evt.marksR l = true) : l.all Evt.ferm = (decide (l.length = 0) || decide (l[0]? = some 4)) := by
  unfold Evt.marksR at h
  rw [Bool.and_eq_true] at h
  cases l with
  | nil => rfl
  | cons m r =>
    have hr := (Evt.rise_lt _).1 h.2
    have hm : ∀ z ∈ m :: r, 1 ≤ z ∧ z ≤ 4 := fun z hz => by have := List.all_eq_true.1 h.1 z hz; unfold Evt.markR at this; exact of_decide_eq_true this
    by_cases h4 : m = 4
    · subst h4
      have : r = [] := by
        cases r with
        | nil => rfl
        | cons z r => have h1 := (List.pairwise_cons.1 hr).1 z (by simp); have h2 := hm z (by simp); omega
      subst this
      rfl
    · simp [Evt.ferm, h4]

set_option maxRecDepth 100000 in
set_option maxHeartbeats 8000000 in
theorem refER_1 (x : Ev) (vp vt vm : Value) (w : World) (h0 : EvR w vp vt vm x) (HV : Hid (Val.ok x.b x.d x.n x.e = false)) :
    Calls Tryd.prog 43 #[evv x vp vt vm] w fun ed w' => ed = .returned (.bool false) ∧ Below w.heap.size w w' := by
  obtain ⟨k, ps, ts, b, d, n, e0, ms, str⟩ := x
  have HX0 := Lib.hid h0
  obtain ⟨Pps, Cps, e1, _⟩ := sl_shape h0.ps
  obtain ⟨Pts, Cts, e2, _⟩ := sl_shape h0.ts
  obtain ⟨Pms, Cms, e3, _⟩ := sl_shape h0.ms
  dsimp only at e1 e2 e3
  subst e1 e2 e3
  clear h0
  have hsz := HX0.out.sz
  dsimp only at hsz
  have hB0 : Below w.heap.size w w := Below.refl _ _
  go_enter Tryd.func43, Tryd.ntmps43
  go_wp2_with fail
  refine (vref_is HV.out _).mono ?_
  rintro e w1 ⟨rfl, hb1⟩
  have hs1 : Below w.heap.size w w1 := Below.trans (by repeat (first | exact Below.refl _ _ | refine Below.alloc ?_ (by simp <;> omega) _)) (hb1.mono (by simp <;> omega))
  have c_e_0 : w1.cell? ⟨w.heap.size, 0, none⟩ = some (.int .i64 k) := (hb1.cell (by simp <;> omega)).trans (by go_simp)
  have c_e_1 : w1.cell? ⟨w.heap.size, 1, none⟩ = some (.slice Pps ps.length Cps) := (hb1.cell (by simp <;> omega)).trans (by go_simp)
  have c_e_2 : w1.cell? ⟨w.heap.size, 2, none⟩ = some (.slice Pts ts.length Cts) := (hb1.cell (by simp <;> omega)).trans (by go_simp)
  have c_e_3 : w1.cell? ⟨w.heap.size, 3, none⟩ = some (.int .i64 b) := (hb1.cell (by simp <;> omega)).trans (by go_simp)
  have c_e_4 : w1.cell? ⟨w.heap.size, 4, none⟩ = some (.int .i64 d) := (hb1.cell (by simp <;> omega)).trans (by go_simp)
  have c_e_5 : w1.cell? ⟨w.heap.size, 5, none⟩ = some (.int .i64 n) := (hb1.cell (by simp <;> omega)).trans (by go_simp)
  have c_e_6 : w1.cell? ⟨w.heap.size, 6, none⟩ = some (.int .i64 e0) := (hb1.cell (by simp <;> omega)).trans (by go_simp)
  have c_e_7 : w1.cell? ⟨w.heap.size, 7, none⟩ = some (.slice Pms ms.length Cms) := (hb1.cell (by simp <;> omega)).trans (by go_simp)
  have c_e_8 : w1.cell? ⟨w.heap.size, 8, none⟩ = some (.string str) := (hb1.cell (by simp <;> omega)).trans (by go_simp)
  have z_e : w.heap.size < _ := World.block_lt_of_cell? _ _ c_e_0
  have hB1 := below_two hB0 hs1
  clear hB0 hs1 hb1
  go_wp2
  go_ret
  exact ⟨rfl, hB1⟩

set_option maxRecDepth 100000 in
set_option maxHeartbeats 8000000 in
theorem refER_2 (x : Ev) (vp vt vm : Value) (w : World) (h0 : EvR w vp vt vm x) (HV : Hid (Val.ok x.b x.d x.n x.e = true)) (HW : Hid (Evt.wordR x.s = false)) :
    Calls Tryd.prog 43 #[evv x vp vt vm] w fun ed w' => ed = .returned (.bool false) ∧ Below w.heap.size w w' := by
  obtain ⟨k, ps, ts, b, d, n, e0, ms, str⟩ := x
  have HX0 := Lib.hid h0
  obtain ⟨Pps, Cps, e1, _⟩ := sl_shape h0.ps
  obtain ⟨Pts, Cts, e2, _⟩ := sl_shape h0.ts
  obtain ⟨Pms, Cms, e3, _⟩ := sl_shape h0.ms
  dsimp only at e1 e2 e3
  subst e1 e2 e3
  clear h0
  have hsz := HX0.out.sz
  dsimp only at hsz
  have hB0 : Below w.heap.size w w := Below.refl _ _
  go_enter Tryd.func43, Tryd.ntmps43
  go_wp2_with fail
  refine (vref_is HV.out _).mono ?_
  rintro e w1 ⟨rfl, hb1⟩
  have hs1 : Below w.heap.size w w1 := Below.trans (by repeat (first | exact Below.refl _ _ | refine Below.alloc ?_ (by simp <;> omega) _)) (hb1.mono (by simp <;> omega))
  have c_e_0 : w1.cell? ⟨w.heap.size, 0, none⟩ = some (.int .i64 k) := (hb1.cell (by simp <;> omega)).trans (by go_simp)
  have c_e_1 : w1.cell? ⟨w.heap.size, 1, none⟩ = some (.slice Pps ps.length Cps) := (hb1.cell (by simp <;> omega)).trans (by go_simp)
  have c_e_2 : w1.cell? ⟨w.heap.size, 2, none⟩ = some (.slice Pts ts.length Cts) := (hb1.cell (by simp <;> omega)).trans (by go_simp)
  have c_e_3 : w1.cell? ⟨w.heap.size, 3, none⟩ = some (.int .i64 b) := (hb1.cell (by simp <;> omega)).trans (by go_simp)
  have c_e_4 : w1.cell? ⟨w.heap.size, 4, none⟩ = some (.int .i64 d) := (hb1.cell (by simp <;> omega)).trans (by go_simp)
  have c_e_5 : w1.cell? ⟨w.heap.size, 5, none⟩ = some (.int .i64 n) := (hb1.cell (by simp <;> omega)).trans (by go_simp)
  have c_e_6 : w1.cell? ⟨w.heap.size, 6, none⟩ = some (.int .i64 e0) := (hb1.cell (by simp <;> omega)).trans (by go_simp)
  have c_e_7 : w1.cell? ⟨w.heap.size, 7, none⟩ = some (.slice Pms ms.length Cms) := (hb1.cell (by simp <;> omega)).trans (by go_simp)
  have c_e_8 : w1.cell? ⟨w.heap.size, 8, none⟩ = some (.string str) := (hb1.cell (by simp <;> omega)).trans (by go_simp)
  have z_e : w.heap.size < _ := World.block_lt_of_cell? _ _ c_e_0
  have hB1 := below_two hB0 hs1
  clear hB0 hs1 hb1
  go_wp2_with fail
  refine (plain_word_is HW.out _ (by omega)).mono ?_
  rintro e w2 ⟨rfl, hb2⟩
  have hs2 := hb2
  replace c_e_0 := cell_later hs2 c_e_0
  replace c_e_1 := cell_later hs2 c_e_1
  replace c_e_2 := cell_later hs2 c_e_2
  replace c_e_3 := cell_later hs2 c_e_3
  replace c_e_4 := cell_later hs2 c_e_4
  replace c_e_5 := cell_later hs2 c_e_5
  replace c_e_6 := cell_later hs2 c_e_6
  replace c_e_7 := cell_later hs2 c_e_7
  replace c_e_8 := cell_later hs2 c_e_8
  clear z_e
  have z_e : w.heap.size < _ := World.block_lt_of_cell? _ _ c_e_0
  have hB2 := below_two hB1 hs2
  clear hB1 hs2
  go_wp2
  go_ret
  exact ⟨rfl, hB2⟩

set_option maxRecDepth 100000 in
set_option maxHeartbeats 8000000 in
theorem refER_3 (x : Ev) (vp vt vm : Value) (w : World) (h0 : EvR w vp vt vm x) (HV : Hid (Val.ok x.b x.d x.n x.e = true)) (HW : Hid (Evt.wordR x.s = true)) (HM : Hid (Evt.marksR x.ms = false)) :
    Calls Tryd.prog 43 #[evv x vp vt vm] w fun ed w' => ed = .returned (.bool false) ∧ Below w.heap.size w w' := by
  obtain ⟨k, ps, ts, b, d, n, e0, ms, str⟩ := x
  have HX0 := Lib.hid h0
  obtain ⟨Pps, Cps, e1, _⟩ := sl_shape h0.ps
  obtain ⟨Pts, Cts, e2, _⟩ := sl_shape h0.ts
  obtain ⟨Pms, Cms, e3, _⟩ := sl_shape h0.ms
  dsimp only at e1 e2 e3
  subst e1 e2 e3
  clear h0
  have hsz := HX0.out.sz
  dsimp only at hsz
  have hB0 : Below w.heap.size w w := Below.refl _ _
  go_enter Tryd.func43, Tryd.ntmps43
  go_wp2_with fail
  refine (vref_is HV.out _).mono ?_
  rintro e w1 ⟨rfl, hb1⟩
  have hs1 : Below w.heap.size w w1 := Below.trans (by repeat (first | exact Below.refl _ _ | refine Below.alloc ?_ (by simp <;> omega) _)) (hb1.mono (by simp <;> omega))
  have c_e_0 : w1.cell? ⟨w.heap.size, 0, none⟩ = some (.int .i64 k) := (hb1.cell (by simp <;> omega)).trans (by go_simp)
  have c_e_1 : w1.cell? ⟨w.heap.size, 1, none⟩ = some (.slice Pps ps.length Cps) := (hb1.cell (by simp <;> omega)).trans (by go_simp)
  have c_e_2 : w1.cell? ⟨w.heap.size, 2, none⟩ = some (.slice Pts ts.length Cts) := (hb1.cell (by simp <;> omega)).trans (by go_simp)
  have c_e_3 : w1.cell? ⟨w.heap.size, 3, none⟩ = some (.int .i64 b) := (hb1.cell (by simp <;> omega)).trans (by go_simp)
  have c_e_4 : w1.cell? ⟨w.heap.size, 4, none⟩ = some (.int .i64 d) := (hb1.cell (by simp <;> omega)).trans (by go_simp)
  have c_e_5 : w1.cell? ⟨w.heap.size, 5, none⟩ = some (.int .i64 n) := (hb1.cell (by simp <;> omega)).trans (by go_simp)
  have c_e_6 : w1.cell? ⟨w.heap.size, 6, none⟩ = some (.int .i64 e0) := (hb1.cell (by simp <;> omega)).trans (by go_simp)
  have c_e_7 : w1.cell? ⟨w.heap.size, 7, none⟩ = some (.slice Pms ms.length Cms) := (hb1.cell (by simp <;> omega)).trans (by go_simp)
  have c_e_8 : w1.cell? ⟨w.heap.size, 8, none⟩ = some (.string str) := (hb1.cell (by simp <;> omega)).trans (by go_simp)
  have z_e : w.heap.size < _ := World.block_lt_of_cell? _ _ c_e_0
  have hB1 := below_two hB0 hs1
  clear hB0 hs1 hb1
  go_wp2_with fail
  refine (plain_word_is HW.out _ (by omega)).mono ?_
  rintro e w2 ⟨rfl, hb2⟩
  have hs2 := hb2
  replace c_e_0 := cell_later hs2 c_e_0
  replace c_e_1 := cell_later hs2 c_e_1
  replace c_e_2 := cell_later hs2 c_e_2
  replace c_e_3 := cell_later hs2 c_e_3
  replace c_e_4 := cell_later hs2 c_e_4
  replace c_e_5 := cell_later hs2 c_e_5
  replace c_e_6 := cell_later hs2 c_e_6
  replace c_e_7 := cell_later hs2 c_e_7
  replace c_e_8 := cell_later hs2 c_e_8
  clear z_e
  have z_e : w.heap.size < _ := World.block_lt_of_cell? _ _ c_e_0
  have hB2 := below_two hB1 hs2
  clear hB1 hs2
  go_wp2_with fail
  refine (refMarks_is HM.out _ ((HX0.out.later hB2)).ms).mono ?_
  rintro e w3 ⟨rfl, hb3⟩
  have hs3 := hb3
  replace c_e_0 := cell_later hs3 c_e_0
  replace c_e_1 := cell_later hs3 c_e_1
  replace c_e_2 := cell_later hs3 c_e_2
  replace c_e_3 := cell_later hs3 c_e_3
  replace c_e_4 := cell_later hs3 c_e_4
  replace c_e_5 := cell_later hs3 c_e_5
  replace c_e_6 := cell_later hs3 c_e_6
  replace c_e_7 := cell_later hs3 c_e_7
  replace c_e_8 := cell_later hs3 c_e_8
  clear z_e
  have z_e : w.heap.size < _ := World.block_lt_of_cell? _ _ c_e_0
  have hB3 := below_two hB2 hs3
  clear hB2 hs3
  go_wp2
  go_ret
  exact ⟨rfl, hB3⟩

set_option maxRecDepth 100000 in
set_option maxHeartbeats 8000000 in
theorem refER_4 (x : Ev) (vp vt vm : Value) (w : World) (h0 : EvR w vp vt vm x) (HV : Hid (Val.ok x.b x.d x.n x.e = true)) (HW : Hid (Evt.wordR x.s = true)) (HM : Hid (Evt.marksR x.ms = true)) (g4 : ((x.ts.length : Int) != (x.ps.length : Int)) = true) :
    Calls Tryd.prog 43 #[evv x vp vt vm] w fun ed w' => ed = .returned (.bool false) ∧ Below w.heap.size w w' := by
  obtain ⟨k, ps, ts, b, d, n, e0, ms, str⟩ := x
  have HX0 := Lib.hid h0
  obtain ⟨Pps, Cps, e1, _⟩ := sl_shape h0.ps
  obtain ⟨Pts, Cts, e2, _⟩ := sl_shape h0.ts
  obtain ⟨Pms, Cms, e3, _⟩ := sl_shape h0.ms
  dsimp only at e1 e2 e3
  subst e1 e2 e3
  clear h0
  have hsz := HX0.out.sz
  dsimp only at hsz g4
  have hB0 : Below w.heap.size w w := Below.refl _ _
  go_enter Tryd.func43, Tryd.ntmps43
  go_wp2_with fail
  refine (vref_is HV.out _).mono ?_
  rintro e w1 ⟨rfl, hb1⟩
  have hs1 : Below w.heap.size w w1 := Below.trans (by repeat (first | exact Below.refl _ _ | refine Below.alloc ?_ (by simp <;> omega) _)) (hb1.mono (by simp <;> omega))
  have c_e_0 : w1.cell? ⟨w.heap.size, 0, none⟩ = some (.int .i64 k) := (hb1.cell (by simp <;> omega)).trans (by go_simp)
  have c_e_1 : w1.cell? ⟨w.heap.size, 1, none⟩ = some (.slice Pps ps.length Cps) := (hb1.cell (by simp <;> omega)).trans (by go_simp)
  have c_e_2 : w1.cell? ⟨w.heap.size, 2, none⟩ = some (.slice Pts ts.length Cts) := (hb1.cell (by simp <;> omega)).trans (by go_simp)
  have c_e_3 : w1.cell? ⟨w.heap.size, 3, none⟩ = some (.int .i64 b) := (hb1.cell (by simp <;> omega)).trans (by go_simp)
  have c_e_4 : w1.cell? ⟨w.heap.size, 4, none⟩ = some (.int .i64 d) := (hb1.cell (by simp <;> omega)).trans (by go_simp)
  have c_e_5 : w1.cell? ⟨w.heap.size, 5, none⟩ = some (.int .i64 n) := (hb1.cell (by simp <;> omega)).trans (by go_simp)
  have c_e_6 : w1.cell? ⟨w.heap.size, 6, none⟩ = some (.int .i64 e0) := (hb1.cell (by simp <;> omega)).trans (by go_simp)
  have c_e_7 : w1.cell? ⟨w.heap.size, 7, none⟩ = some (.slice Pms ms.length Cms) := (hb1.cell (by simp <;> omega)).trans (by go_simp)
  have c_e_8 : w1.cell? ⟨w.heap.size, 8, none⟩ = some (.string str) := (hb1.cell (by simp <;> omega)).trans (by go_simp)
  have z_e : w.heap.size < _ := World.block_lt_of_cell? _ _ c_e_0
  have hB1 := below_two hB0 hs1
  clear hB0 hs1 hb1
  go_wp2_with fail
  refine (plain_word_is HW.out _ (by omega)).mono ?_
  rintro e w2 ⟨rfl, hb2⟩
  have hs2 := hb2
  replace c_e_0 := cell_later hs2 c_e_0
  replace c_e_1 := cell_later hs2 c_e_1
  replace c_e_2 := cell_later hs2 c_e_2
  replace c_e_3 := cell_later hs2 c_e_3
  replace c_e_4 := cell_later hs2 c_e_4
  replace c_e_5 := cell_later hs2 c_e_5
  replace c_e_6 := cell_later hs2 c_e_6
  replace c_e_7 := cell_later hs2 c_e_7
  replace c_e_8 := cell_later hs2 c_e_8
  clear z_e
  have z_e : w.heap.size < _ := World.block_lt_of_cell? _ _ c_e_0
  have hB2 := below_two hB1 hs2
  clear hB1 hs2
  go_wp2_with fail
  refine (refMarks_is HM.out _ ((HX0.out.later hB2)).ms).mono ?_
  rintro e w3 ⟨rfl, hb3⟩
  have hs3 := hb3
  replace c_e_0 := cell_later hs3 c_e_0
  replace c_e_1 := cell_later hs3 c_e_1
  replace c_e_2 := cell_later hs3 c_e_2
  replace c_e_3 := cell_later hs3 c_e_3
  replace c_e_4 := cell_later hs3 c_e_4
  replace c_e_5 := cell_later hs3 c_e_5
  replace c_e_6 := cell_later hs3 c_e_6
  replace c_e_7 := cell_later hs3 c_e_7
  replace c_e_8 := cell_later hs3 c_e_8
  clear z_e
  have z_e : w.heap.size < _ := World.block_lt_of_cell? _ _ c_e_0
  have hB3 := below_two hB2 hs3
  clear hB2 hs3
  go_wp2
  go_ret
  exact ⟨rfl, hB3⟩

set_option maxRecDepth 100000 in
set_option maxHeartbeats 8000000 in
theorem refER_5a (x : Ev) (vp vt vm : Value) (w : World) (h0 : EvR w vp vt vm x) (HV : Hid (Val.ok x.b x.d x.n x.e = true)) (HW : Hid (Evt.wordR x.s = true)) (HM : Hid (Evt.marksR x.ms = true)) (g4 : ((x.ts.length : Int) != (x.ps.length : Int)) = false) (g5 : (x.k == 0) = true) (g7 : ((x.ps.length : Int) == 0) = false) :
    Calls Tryd.prog 43 #[evv x vp vt vm] w fun ed w' => ed = .returned (.bool false) ∧ Below w.heap.size w w' := by
  obtain ⟨k, ps, ts, b, d, n, e0, ms, str⟩ := x
  have HX0 := Lib.hid h0
  obtain ⟨Pps, Cps, e1, _⟩ := sl_shape h0.ps
  obtain ⟨Pts, Cts, e2, _⟩ := sl_shape h0.ts
  obtain ⟨Pms, Cms, e3, _⟩ := sl_shape h0.ms
  dsimp only at e1 e2 e3
  subst e1 e2 e3
  clear h0
  have hsz := HX0.out.sz
  dsimp only at hsz g4 g5 g7
  have hB0 : Below w.heap.size w w := Below.refl _ _
  go_enter Tryd.func43, Tryd.ntmps43
  go_wp2_with fail
  refine (vref_is HV.out _).mono ?_
  rintro e w1 ⟨rfl, hb1⟩
  have hs1 : Below w.heap.size w w1 := Below.trans (by repeat (first | exact Below.refl _ _ | refine Below.alloc ?_ (by simp <;> omega) _)) (hb1.mono (by simp <;> omega))
  have c_e_0 : w1.cell? ⟨w.heap.size, 0, none⟩ = some (.int .i64 k) := (hb1.cell (by simp <;> omega)).trans (by go_simp)
  have c_e_1 : w1.cell? ⟨w.heap.size, 1, none⟩ = some (.slice Pps ps.length Cps) := (hb1.cell (by simp <;> omega)).trans (by go_simp)
  have c_e_2 : w1.cell? ⟨w.heap.size, 2, none⟩ = some (.slice Pts ts.length Cts) := (hb1.cell (by simp <;> omega)).trans (by go_simp)
  have c_e_3 : w1.cell? ⟨w.heap.size, 3, none⟩ = some (.int .i64 b) := (hb1.cell (by simp <;> omega)).trans (by go_simp)
  have c_e_4 : w1.cell? ⟨w.heap.size, 4, none⟩ = some (.int .i64 d) := (hb1.cell (by simp <;> omega)).trans (by go_simp)
  have c_e_5 : w1.cell? ⟨w.heap.size, 5, none⟩ = some (.int .i64 n) := (hb1.cell (by simp <;> omega)).trans (by go_simp)
  have c_e_6 : w1.cell? ⟨w.heap.size, 6, none⟩ = some (.int .i64 e0) := (hb1.cell (by simp <;> omega)).trans (by go_simp)
  have c_e_7 : w1.cell? ⟨w.heap.size, 7, none⟩ = some (.slice Pms ms.length Cms) := (hb1.cell (by simp <;> omega)).trans (by go_simp)
  have c_e_8 : w1.cell? ⟨w.heap.size, 8, none⟩ = some (.string str) := (hb1.cell (by simp <;> omega)).trans (by go_simp)
  have z_e : w.heap.size < _ := World.block_lt_of_cell? _ _ c_e_0
  have hB1 := below_two hB0 hs1
  clear hB0 hs1 hb1
  go_wp2_with fail
  refine (plain_word_is HW.out _ (by omega)).mono ?_
  rintro e w2 ⟨rfl, hb2⟩
  have hs2 := hb2
  replace c_e_0 := cell_later hs2 c_e_0
  replace c_e_1 := cell_later hs2 c_e_1
  replace c_e_2 := cell_later hs2 c_e_2
  replace c_e_3 := cell_later hs2 c_e_3
  replace c_e_4 := cell_later hs2 c_e_4
  replace c_e_5 := cell_later hs2 c_e_5
  replace c_e_6 := cell_later hs2 c_e_6
  replace c_e_7 := cell_later hs2 c_e_7
  replace c_e_8 := cell_later hs2 c_e_8
  clear z_e
  have z_e : w.heap.size < _ := World.block_lt_of_cell? _ _ c_e_0
  have hB2 := below_two hB1 hs2
  clear hB1 hs2
  go_wp2_with fail
  refine (refMarks_is HM.out _ ((HX0.out.later hB2)).ms).mono ?_
  rintro e w3 ⟨rfl, hb3⟩
  have hs3 := hb3
  replace c_e_0 := cell_later hs3 c_e_0
  replace c_e_1 := cell_later hs3 c_e_1
  replace c_e_2 := cell_later hs3 c_e_2
  replace c_e_3 := cell_later hs3 c_e_3
  replace c_e_4 := cell_later hs3 c_e_4
  replace c_e_5 := cell_later hs3 c_e_5
  replace c_e_6 := cell_later hs3 c_e_6
  replace c_e_7 := cell_later hs3 c_e_7
  replace c_e_8 := cell_later hs3 c_e_8
  clear z_e
  have z_e : w.heap.size < _ := World.block_lt_of_cell? _ _ c_e_0
  have hB3 := below_two hB2 hs3
  clear hB2 hs3
  go_wp2
  go_ret
  exact ⟨rfl, hB3⟩

set_option maxRecDepth 100000 in
set_option maxHeartbeats 8000000 in
theorem refER_5b (x : Ev) (vp vt vm : Value) (w : World) (h0 : EvR w vp vt vm x) (HV : Hid (Val.ok x.b x.d x.n x.e = true)) (HW : Hid (Evt.wordR x.s = true)) (HM : Hid (Evt.marksR x.ms = true)) (g4 : ((x.ts.length : Int) != (x.ps.length : Int)) = false) (g5 : (x.k == 0) = true) (g7 : ((x.ps.length : Int) == 0) = true) (g8 : ((x.s.size : Int) == 0) = false) :
    Calls Tryd.prog 43 #[evv x vp vt vm] w fun ed w' => ed = .returned (.bool false) ∧ Below w.heap.size w w' := by
  obtain ⟨k, ps, ts, b, d, n, e0, ms, str⟩ := x
  have HX0 := Lib.hid h0
  obtain ⟨Pps, Cps, e1, _⟩ := sl_shape h0.ps
  obtain ⟨Pts, Cts, e2, _⟩ := sl_shape h0.ts
  obtain ⟨Pms, Cms, e3, _⟩ := sl_shape h0.ms
  dsimp only at e1 e2 e3
  subst e1 e2 e3
  clear h0
  have hsz := HX0.out.sz
  dsimp only at hsz g4 g5 g7 g8
  have hB0 : Below w.heap.size w w := Below.refl _ _
  go_enter Tryd.func43, Tryd.ntmps43
  go_wp2_with fail
  refine (vref_is HV.out _).mono ?_
  rintro e w1 ⟨rfl, hb1⟩
  have hs1 : Below w.heap.size w w1 := Below.trans (by repeat (first | exact Below.refl _ _ | refine Below.alloc ?_ (by simp <;> omega) _)) (hb1.mono (by simp <;> omega))
  have c_e_0 : w1.cell? ⟨w.heap.size, 0, none⟩ = some (.int .i64 k) := (hb1.cell (by simp <;> omega)).trans (by go_simp)
  have c_e_1 : w1.cell? ⟨w.heap.size, 1, none⟩ = some (.slice Pps ps.length Cps) := (hb1.cell (by simp <;> omega)).trans (by go_simp)
  have c_e_2 : w1.cell? ⟨w.heap.size, 2, none⟩ = some (.slice Pts ts.length Cts) := (hb1.cell (by simp <;> omega)).trans (by go_simp)
  have c_e_3 : w1.cell? ⟨w.heap.size, 3, none⟩ = some (.int .i64 b) := (hb1.cell (by simp <;> omega)).trans (by go_simp)
  have c_e_4 : w1.cell? ⟨w.heap.size, 4, none⟩ = some (.int .i64 d) := (hb1.cell (by simp <;> omega)).trans (by go_simp)
  have c_e_5 : w1.cell? ⟨w.heap.size, 5, none⟩ = some (.int .i64 n) := (hb1.cell (by simp <;> omega)).trans (by go_simp)
  have c_e_6 : w1.cell? ⟨w.heap.size, 6, none⟩ = some (.int .i64 e0) := (hb1.cell (by simp <;> omega)).trans (by go_simp)
  have c_e_7 : w1.cell? ⟨w.heap.size, 7, none⟩ = some (.slice Pms ms.length Cms) := (hb1.cell (by simp <;> omega)).trans (by go_simp)
  have c_e_8 : w1.cell? ⟨w.heap.size, 8, none⟩ = some (.string str) := (hb1.cell (by simp <;> omega)).trans (by go_simp)
  have z_e : w.heap.size < _ := World.block_lt_of_cell? _ _ c_e_0
  have hB1 := below_two hB0 hs1
  clear hB0 hs1 hb1
  go_wp2_with fail
  refine (plain_word_is HW.out _ (by omega)).mono ?_
  rintro e w2 ⟨rfl, hb2⟩
  have hs2 := hb2
  replace c_e_0 := cell_later hs2 c_e_0
  replace c_e_1 := cell_later hs2 c_e_1
  replace c_e_2 := cell_later hs2 c_e_2
  replace c_e_3 := cell_later hs2 c_e_3
  replace c_e_4 := cell_later hs2 c_e_4
  replace c_e_5 := cell_later hs2 c_e_5
  replace c_e_6 := cell_later hs2 c_e_6
  replace c_e_7 := cell_later hs2 c_e_7
  replace c_e_8 := cell_later hs2 c_e_8
  clear z_e
  have z_e : w.heap.size < _ := World.block_lt_of_cell? _ _ c_e_0
  have hB2 := below_two hB1 hs2
  clear hB1 hs2
  go_wp2_with fail
  refine (refMarks_is HM.out _ ((HX0.out.later hB2)).ms).mono ?_
  rintro e w3 ⟨rfl, hb3⟩
  have hs3 := hb3
  replace c_e_0 := cell_later hs3 c_e_0
  replace c_e_1 := cell_later hs3 c_e_1
  replace c_e_2 := cell_later hs3 c_e_2
  replace c_e_3 := cell_later hs3 c_e_3
  replace c_e_4 := cell_later hs3 c_e_4
  replace c_e_5 := cell_later hs3 c_e_5
  replace c_e_6 := cell_later hs3 c_e_6
  replace c_e_7 := cell_later hs3 c_e_7
  replace c_e_8 := cell_later hs3 c_e_8
  clear z_e
  have z_e : w.heap.size < _ := World.block_lt_of_cell? _ _ c_e_0
  have hB3 := below_two hB2 hs3
  clear hB2 hs3
  go_wp2
  go_ret
  exact ⟨rfl, hB3⟩

set_option maxRecDepth 100000 in
set_option maxHeartbeats 8000000 in
theorem refER_5c (x : Ev) (vp vt vm : Value) (w : World) (h0 : EvR w vp vt vm x) (HV : Hid (Val.ok x.b x.d x.n x.e = true)) (HW : Hid (Evt.wordR x.s = true)) (HM : Hid (Evt.marksR x.ms = true)) (g4 : ((x.ts.length : Int) != (x.ps.length : Int)) = false) (g5 : (x.k == 0) = true) (g7 : ((x.ps.length : Int) == 0) = true) (g8 : ((x.s.size : Int) == 0) = true) (g9 : ((x.ms.length : Int) == 0) = true) :
    Calls Tryd.prog 43 #[evv x vp vt vm] w fun ed w' => ed = .returned (.bool true) ∧ Below w.heap.size w w' := by
  obtain ⟨k, ps, ts, b, d, n, e0, ms, str⟩ := x
  have HX0 := Lib.hid h0
  obtain ⟨Pps, Cps, e1, _⟩ := sl_shape h0.ps
  obtain ⟨Pts, Cts, e2, _⟩ := sl_shape h0.ts
  obtain ⟨Pms, Cms, e3, _⟩ := sl_shape h0.ms
  dsimp only at e1 e2 e3
  subst e1 e2 e3
  clear h0
  have hsz := HX0.out.sz
  dsimp only at hsz g4 g5 g7 g8 g9
  have hB0 : Below w.heap.size w w := Below.refl _ _
  go_enter Tryd.func43, Tryd.ntmps43
  go_wp2_with fail
  refine (vref_is HV.out _).mono ?_
  rintro e w1 ⟨rfl, hb1⟩
  have hs1 : Below w.heap.size w w1 := Below.trans (by repeat (first | exact Below.refl _ _ | refine Below.alloc ?_ (by simp <;> omega) _)) (hb1.mono (by simp <;> omega))
  have c_e_0 : w1.cell? ⟨w.heap.size, 0, none⟩ = some (.int .i64 k) := (hb1.cell (by simp <;> omega)).trans (by go_simp)
  have c_e_1 : w1.cell? ⟨w.heap.size, 1, none⟩ = some (.slice Pps ps.length Cps) := (hb1.cell (by simp <;> omega)).trans (by go_simp)
  have c_e_2 : w1.cell? ⟨w.heap.size, 2, none⟩ = some (.slice Pts ts.length Cts) := (hb1.cell (by simp <;> omega)).trans (by go_simp)
  have c_e_3 : w1.cell? ⟨w.heap.size, 3, none⟩ = some (.int .i64 b) := (hb1.cell (by simp <;> omega)).trans (by go_simp)
  have c_e_4 : w1.cell? ⟨w.heap.size, 4, none⟩ = some (.int .i64 d) := (hb1.cell (by simp <;> omega)).trans (by go_simp)
  have c_e_5 : w1.cell? ⟨w.heap.size, 5, none⟩ = some (.int .i64 n) := (hb1.cell (by simp <;> omega)).trans (by go_simp)
  have c_e_6 : w1.cell? ⟨w.heap.size, 6, none⟩ = some (.int .i64 e0) := (hb1.cell (by simp <;> omega)).trans (by go_simp)
  have c_e_7 : w1.cell? ⟨w.heap.size, 7, none⟩ = some (.slice Pms ms.length Cms) := (hb1.cell (by simp <;> omega)).trans (by go_simp)
  have c_e_8 : w1.cell? ⟨w.heap.size, 8, none⟩ = some (.string str) := (hb1.cell (by simp <;> omega)).trans (by go_simp)
  have z_e : w.heap.size < _ := World.block_lt_of_cell? _ _ c_e_0
  have hB1 := below_two hB0 hs1
  clear hB0 hs1 hb1
  go_wp2_with fail
  refine (plain_word_is HW.out _ (by omega)).mono ?_
  rintro e w2 ⟨rfl, hb2⟩
  have hs2 := hb2
  replace c_e_0 := cell_later hs2 c_e_0
  replace c_e_1 := cell_later hs2 c_e_1
  replace c_e_2 := cell_later hs2 c_e_2
  replace c_e_3 := cell_later hs2 c_e_3
  replace c_e_4 := cell_later hs2 c_e_4
  replace c_e_5 := cell_later hs2 c_e_5
  replace c_e_6 := cell_later hs2 c_e_6
  replace c_e_7 := cell_later hs2 c_e_7
  replace c_e_8 := cell_later hs2 c_e_8
  clear z_e
  have z_e : w.heap.size < _ := World.block_lt_of_cell? _ _ c_e_0
  have hB2 := below_two hB1 hs2
  clear hB1 hs2
  go_wp2_with fail
  refine (refMarks_is HM.out _ ((HX0.out.later hB2)).ms).mono ?_
  rintro e w3 ⟨rfl, hb3⟩
  have hs3 := hb3
  replace c_e_0 := cell_later hs3 c_e_0
  replace c_e_1 := cell_later hs3 c_e_1
  replace c_e_2 := cell_later hs3 c_e_2
  replace c_e_3 := cell_later hs3 c_e_3
  replace c_e_4 := cell_later hs3 c_e_4
  replace c_e_5 := cell_later hs3 c_e_5
  replace c_e_6 := cell_later hs3 c_e_6
  replace c_e_7 := cell_later hs3 c_e_7
  replace c_e_8 := cell_later hs3 c_e_8
  clear z_e
  have z_e : w.heap.size < _ := World.block_lt_of_cell? _ _ c_e_0
  have hB3 := below_two hB2 hs3
  clear hB2 hs3
  go_wp2
  go_ret
  exact ⟨rfl, hB3⟩

set_option maxRecDepth 100000 in
set_option maxHeartbeats 8000000 in
theorem refER_5dt (x : Ev) (vp vt vm : Value) (m : Int) (w : World) (h0 : EvR w vp vt vm x) (HV : Hid (Val.ok x.b x.d x.n x.e = true)) (HW : Hid (Evt.wordR x.s = true)) (HM : Hid (Evt.marksR x.ms = true)) (g4 : ((x.ts.length : Int) != (x.ps.length : Int)) = false) (g5 : (x.k == 0) = true) (g7 : ((x.ps.length : Int) == 0) = true) (g8 : ((x.s.size : Int) == 0) = true) (g9 : ((x.ms.length : Int) == 0) = false) (hm : x.ms[0]? = some m) (gm : (m == 4) = true) :
    Calls Tryd.prog 43 #[evv x vp vt vm] w fun ed w' => ed = .returned (.bool true) ∧ Below w.heap.size w w' := by
  obtain ⟨k, ps, ts, b, d, n, e0, ms, str⟩ := x
  have HX0 := Lib.hid h0
  obtain ⟨Pps, Cps, e1, _⟩ := sl_shape h0.ps
  obtain ⟨Pts, Cts, e2, _⟩ := sl_shape h0.ts
  obtain ⟨Pms, Cms, e3, _⟩ := sl_shape h0.ms
  dsimp only at e1 e2 e3
  subst e1 e2 e3
  clear h0
  have hsz := HX0.out.sz
  dsimp only at hsz g4 g5 g7 g8 g9 gm
  have hB0 : Below w.heap.size w w := Below.refl _ _
  go_enter Tryd.func43, Tryd.ntmps43
  go_wp2_with fail
  refine (vref_is HV.out _).mono ?_
  rintro e w1 ⟨rfl, hb1⟩
  have hs1 : Below w.heap.size w w1 := Below.trans (by repeat (first | exact Below.refl _ _ | refine Below.alloc ?_ (by simp <;> omega) _)) (hb1.mono (by simp <;> omega))
  have c_e_0 : w1.cell? ⟨w.heap.size, 0, none⟩ = some (.int .i64 k) := (hb1.cell (by simp <;> omega)).trans (by go_simp)
  have c_e_1 : w1.cell? ⟨w.heap.size, 1, none⟩ = some (.slice Pps ps.length Cps) := (hb1.cell (by simp <;> omega)).trans (by go_simp)
  have c_e_2 : w1.cell? ⟨w.heap.size, 2, none⟩ = some (.slice Pts ts.length Cts) := (hb1.cell (by simp <;> omega)).trans (by go_simp)
  have c_e_3 : w1.cell? ⟨w.heap.size, 3, none⟩ = some (.int .i64 b) := (hb1.cell (by simp <;> omega)).trans (by go_simp)
  have c_e_4 : w1.cell? ⟨w.heap.size, 4, none⟩ = some (.int .i64 d) := (hb1.cell (by simp <;> omega)).trans (by go_simp)
  have c_e_5 : w1.cell? ⟨w.heap.size, 5, none⟩ = some (.int .i64 n) := (hb1.cell (by simp <;> omega)).trans (by go_simp)
  have c_e_6 : w1.cell? ⟨w.heap.size, 6, none⟩ = some (.int .i64 e0) := (hb1.cell (by simp <;> omega)).trans (by go_simp)
  have c_e_7 : w1.cell? ⟨w.heap.size, 7, none⟩ = some (.slice Pms ms.length Cms) := (hb1.cell (by simp <;> omega)).trans (by go_simp)
  have c_e_8 : w1.cell? ⟨w.heap.size, 8, none⟩ = some (.string str) := (hb1.cell (by simp <;> omega)).trans (by go_simp)
  have z_e : w.heap.size < _ := World.block_lt_of_cell? _ _ c_e_0
  have hB1 := below_two hB0 hs1
  clear hB0 hs1 hb1
  go_wp2_with fail
  refine (plain_word_is HW.out _ (by omega)).mono ?_
  rintro e w2 ⟨rfl, hb2⟩
  have hs2 := hb2
  replace c_e_0 := cell_later hs2 c_e_0
  replace c_e_1 := cell_later hs2 c_e_1
  replace c_e_2 := cell_later hs2 c_e_2
  replace c_e_3 := cell_later hs2 c_e_3
  replace c_e_4 := cell_later hs2 c_e_4
  replace c_e_5 := cell_later hs2 c_e_5
  replace c_e_6 := cell_later hs2 c_e_6
  replace c_e_7 := cell_later hs2 c_e_7
  replace c_e_8 := cell_later hs2 c_e_8
  clear z_e
  have z_e : w.heap.size < _ := World.block_lt_of_cell? _ _ c_e_0
  have hB2 := below_two hB1 hs2
  clear hB1 hs2
  go_wp2_with fail
  refine (refMarks_is HM.out _ ((HX0.out.later hB2)).ms).mono ?_
  rintro e w3 ⟨rfl, hb3⟩
  have hs3 := hb3
  replace c_e_0 := cell_later hs3 c_e_0
  replace c_e_1 := cell_later hs3 c_e_1
  replace c_e_2 := cell_later hs3 c_e_2
  replace c_e_3 := cell_later hs3 c_e_3
  replace c_e_4 := cell_later hs3 c_e_4
  replace c_e_5 := cell_later hs3 c_e_5
  replace c_e_6 := cell_later hs3 c_e_6
  replace c_e_7 := cell_later hs3 c_e_7
  replace c_e_8 := cell_later hs3 c_e_8
  clear z_e
  have z_e : w.heap.size < _ := World.block_lt_of_cell? _ _ c_e_0
  have hB3 := below_two hB2 hs3
  clear hB2 hs3
  obtain ⟨bm, om, em, hcm⟩ := ints_at (HX0.out.later hB3).ms hm
  rw [Nat.add_zero] at hcm
  subst em
  have hl0 : (0 : Int) < (ms.length : Int) := by have := (List.getElem?_eq_some_iff.1 hm).1; omega
  have hl0' : 0 < ms.length := by omega
  clear hm
  go_wp2
  go_ret
  exact ⟨rfl, hB3⟩

set_option maxRecDepth 100000 in
set_option maxHeartbeats 8000000 in
theorem refER_5df (x : Ev) (vp vt vm : Value) (m : Int) (w : World) (h0 : EvR w vp vt vm x) (HV : Hid (Val.ok x.b x.d x.n x.e = true)) (HW : Hid (Evt.wordR x.s = true)) (HM : Hid (Evt.marksR x.ms = true)) (g4 : ((x.ts.length : Int) != (x.ps.length : Int)) = false) (g5 : (x.k == 0) = true) (g7 : ((x.ps.length : Int) == 0) = true) (g8 : ((x.s.size : Int) == 0) = true) (g9 : ((x.ms.length : Int) == 0) = false) (hm : x.ms[0]? = some m) (gm : (m == 4) = false) :
    Calls Tryd.prog 43 #[evv x vp vt vm] w fun ed w' => ed = .returned (.bool false) ∧ Below w.heap.size w w' := by
  obtain ⟨k, ps, ts, b, d, n, e0, ms, str⟩ := x
  have HX0 := Lib.hid h0
  obtain ⟨Pps, Cps, e1, _⟩ := sl_shape h0.ps
  obtain ⟨Pts, Cts, e2, _⟩ := sl_shape h0.ts
  obtain ⟨Pms, Cms, e3, _⟩ := sl_shape h0.ms
  dsimp only at e1 e2 e3
  subst e1 e2 e3
  clear h0
  have hsz := HX0.out.sz
  dsimp only at hsz g4 g5 g7 g8 g9 gm
  have hB0 : Below w.heap.size w w := Below.refl _ _
  go_enter Tryd.func43, Tryd.ntmps43
  go_wp2_with fail
  refine (vref_is HV.out _).mono ?_
  rintro e w1 ⟨rfl, hb1⟩
  have hs1 : Below w.heap.size w w1 := Below.trans (by repeat (first | exact Below.refl _ _ | refine Below.alloc ?_ (by simp <;> omega) _)) (hb1.mono (by simp <;> omega))
  have c_e_0 : w1.cell? ⟨w.heap.size, 0, none⟩ = some (.int .i64 k) := (hb1.cell (by simp <;> omega)).trans (by go_simp)
  have c_e_1 : w1.cell? ⟨w.heap.size, 1, none⟩ = some (.slice Pps ps.length Cps) := (hb1.cell (by simp <;> omega)).trans (by go_simp)
  have c_e_2 : w1.cell? ⟨w.heap.size, 2, none⟩ = some (.slice Pts ts.length Cts) := (hb1.cell (by simp <;> omega)).trans (by go_simp)
  have c_e_3 : w1.cell? ⟨w.heap.size, 3, none⟩ = some (.int .i64 b) := (hb1.cell (by simp <;> omega)).trans (by go_simp)
  have c_e_4 : w1.cell? ⟨w.heap.size, 4, none⟩ = some (.int .i64 d) := (hb1.cell (by simp <;> omega)).trans (by go_simp)
  have c_e_5 : w1.cell? ⟨w.heap.size, 5, none⟩ = some (.int .i64 n) := (hb1.cell (by simp <;> omega)).trans (by go_simp)
  have c_e_6 : w1.cell? ⟨w.heap.size, 6, none⟩ = some (.int .i64 e0) := (hb1.cell (by simp <;> omega)).trans (by go_simp)
  have c_e_7 : w1.cell? ⟨w.heap.size, 7, none⟩ = some (.slice Pms ms.length Cms) := (hb1.cell (by simp <;> omega)).trans (by go_simp)
  have c_e_8 : w1.cell? ⟨w.heap.size, 8, none⟩ = some (.string str) := (hb1.cell (by simp <;> omega)).trans (by go_simp)
  have z_e : w.heap.size < _ := World.block_lt_of_cell? _ _ c_e_0
  have hB1 := below_two hB0 hs1
  clear hB0 hs1 hb1
  go_wp2_with fail
  refine (plain_word_is HW.out _ (by omega)).mono ?_
  rintro e w2 ⟨rfl, hb2⟩
  have hs2 := hb2
  replace c_e_0 := cell_later hs2 c_e_0
  replace c_e_1 := cell_later hs2 c_e_1
  replace c_e_2 := cell_later hs2 c_e_2
  replace c_e_3 := cell_later hs2 c_e_3
  replace c_e_4 := cell_later hs2 c_e_4
  replace c_e_5 := cell_later hs2 c_e_5
  replace c_e_6 := cell_later hs2 c_e_6
  replace c_e_7 := cell_later hs2 c_e_7
  replace c_e_8 := cell_later hs2 c_e_8
  clear z_e
  have z_e : w.heap.size < _ := World.block_lt_of_cell? _ _ c_e_0
  have hB2 := below_two hB1 hs2
  clear hB1 hs2
  go_wp2_with fail
  refine (refMarks_is HM.out _ ((HX0.out.later hB2)).ms).mono ?_
  rintro e w3 ⟨rfl, hb3⟩
  have hs3 := hb3
  replace c_e_0 := cell_later hs3 c_e_0
  replace c_e_1 := cell_later hs3 c_e_1
  replace c_e_2 := cell_later hs3 c_e_2
  replace c_e_3 := cell_later hs3 c_e_3
  replace c_e_4 := cell_later hs3 c_e_4
  replace c_e_5 := cell_later hs3 c_e_5
  replace c_e_6 := cell_later hs3 c_e_6
  replace c_e_7 := cell_later hs3 c_e_7
  replace c_e_8 := cell_later hs3 c_e_8
  clear z_e
  have z_e : w.heap.size < _ := World.block_lt_of_cell? _ _ c_e_0
  have hB3 := below_two hB2 hs3
  clear hB2 hs3
  obtain ⟨bm, om, em, hcm⟩ := ints_at (HX0.out.later hB3).ms hm
  rw [Nat.add_zero] at hcm
  subst em
  have hl0 : (0 : Int) < (ms.length : Int) := by have := (List.getElem?_eq_some_iff.1 hm).1; omega
  have hl0' : 0 < ms.length := by omega
  clear hm
  go_wp2
  go_ret
  exact ⟨rfl, hB3⟩

set_option maxRecDepth 100000 in
set_option maxHeartbeats 8000000 in
theorem refER_6 (x : Ev) (vp vt vm : Value) (w : World) (h0 : EvR w vp vt vm x) (HV : Hid (Val.ok x.b x.d x.n x.e = true)) (HW : Hid (Evt.wordR x.s = true)) (HM : Hid (Evt.marksR x.ms = true)) (g4 : ((x.ts.length : Int) != (x.ps.length : Int)) = false) (g5 : (x.k == 0) = false) (g6 : (x.k != 1) = true) :
    Calls Tryd.prog 43 #[evv x vp vt vm] w fun ed w' => ed = .returned (.bool false) ∧ Below w.heap.size w w' := by
  obtain ⟨k, ps, ts, b, d, n, e0, ms, str⟩ := x
  have HX0 := Lib.hid h0
  obtain ⟨Pps, Cps, e1, _⟩ := sl_shape h0.ps
  obtain ⟨Pts, Cts, e2, _⟩ := sl_shape h0.ts
  obtain ⟨Pms, Cms, e3, _⟩ := sl_shape h0.ms
  dsimp only at e1 e2 e3
  subst e1 e2 e3
  clear h0
  have hsz := HX0.out.sz
  dsimp only at hsz g4 g5 g6
  have hB0 : Below w.heap.size w w := Below.refl _ _
  go_enter Tryd.func43, Tryd.ntmps43
  go_wp2_with fail
  refine (vref_is HV.out _).mono ?_
  rintro e w1 ⟨rfl, hb1⟩
  have hs1 : Below w.heap.size w w1 := Below.trans (by repeat (first | exact Below.refl _ _ | refine Below.alloc ?_ (by simp <;> omega) _)) (hb1.mono (by simp <;> omega))
  have c_e_0 : w1.cell? ⟨w.heap.size, 0, none⟩ = some (.int .i64 k) := (hb1.cell (by simp <;> omega)).trans (by go_simp)
  have c_e_1 : w1.cell? ⟨w.heap.size, 1, none⟩ = some (.slice Pps ps.length Cps) := (hb1.cell (by simp <;> omega)).trans (by go_simp)
  have c_e_2 : w1.cell? ⟨w.heap.size, 2, none⟩ = some (.slice Pts ts.length Cts) := (hb1.cell (by simp <;> omega)).trans (by go_simp)
  have c_e_3 : w1.cell? ⟨w.heap.size, 3, none⟩ = some (.int .i64 b) := (hb1.cell (by simp <;> omega)).trans (by go_simp)
  have c_e_4 : w1.cell? ⟨w.heap.size, 4, none⟩ = some (.int .i64 d) := (hb1.cell (by simp <;> omega)).trans (by go_simp)
  have c_e_5 : w1.cell? ⟨w.heap.size, 5, none⟩ = some (.int .i64 n) := (hb1.cell (by simp <;> omega)).trans (by go_simp)
  have c_e_6 : w1.cell? ⟨w.heap.size, 6, none⟩ = some (.int .i64 e0) := (hb1.cell (by simp <;> omega)).trans (by go_simp)
  have c_e_7 : w1.cell? ⟨w.heap.size, 7, none⟩ = some (.slice Pms ms.length Cms) := (hb1.cell (by simp <;> omega)).trans (by go_simp)
  have c_e_8 : w1.cell? ⟨w.heap.size, 8, none⟩ = some (.string str) := (hb1.cell (by simp <;> omega)).trans (by go_simp)
  have z_e : w.heap.size < _ := World.block_lt_of_cell? _ _ c_e_0
  have hB1 := below_two hB0 hs1
  clear hB0 hs1 hb1
  go_wp2_with fail
  refine (plain_word_is HW.out _ (by omega)).mono ?_
  rintro e w2 ⟨rfl, hb2⟩
  have hs2 := hb2
  replace c_e_0 := cell_later hs2 c_e_0
  replace c_e_1 := cell_later hs2 c_e_1
  replace c_e_2 := cell_later hs2 c_e_2
  replace c_e_3 := cell_later hs2 c_e_3
  replace c_e_4 := cell_later hs2 c_e_4
  replace c_e_5 := cell_later hs2 c_e_5
  replace c_e_6 := cell_later hs2 c_e_6
  replace c_e_7 := cell_later hs2 c_e_7
  replace c_e_8 := cell_later hs2 c_e_8
  clear z_e
  have z_e : w.heap.size < _ := World.block_lt_of_cell? _ _ c_e_0
  have hB2 := below_two hB1 hs2
  clear hB1 hs2
  go_wp2_with fail
  refine (refMarks_is HM.out _ ((HX0.out.later hB2)).ms).mono ?_
  rintro e w3 ⟨rfl, hb3⟩
  have hs3 := hb3
  replace c_e_0 := cell_later hs3 c_e_0
  replace c_e_1 := cell_later hs3 c_e_1
  replace c_e_2 := cell_later hs3 c_e_2
  replace c_e_3 := cell_later hs3 c_e_3
  replace c_e_4 := cell_later hs3 c_e_4
  replace c_e_5 := cell_later hs3 c_e_5
  replace c_e_6 := cell_later hs3 c_e_6
  replace c_e_7 := cell_later hs3 c_e_7
  replace c_e_8 := cell_later hs3 c_e_8
  clear z_e
  have z_e : w.heap.size < _ := World.block_lt_of_cell? _ _ c_e_0
  have hB3 := below_two hB2 hs3
  clear hB2 hs3
  go_wp2
  go_ret
  exact ⟨rfl, hB3⟩

set_option maxRecDepth 100000 in
set_option maxHeartbeats 8000000 in
theorem refER_7a (x : Ev) (vp vt vm : Value) (w : World) (h0 : EvR w vp vt vm x) (HV : Hid (Val.ok x.b x.d x.n x.e = true)) (HW : Hid (Evt.wordR x.s = true)) (HM : Hid (Evt.marksR x.ms = true)) (g4 : ((x.ts.length : Int) != (x.ps.length : Int)) = false) (g5 : (x.k == 0) = false) (g6 : (x.k != 1) = false) (g7 : ((x.ps.length : Int) == 0) = true) :
    Calls Tryd.prog 43 #[evv x vp vt vm] w fun ed w' => ed = .returned (.bool false) ∧ Below w.heap.size w w' := by
  obtain ⟨k, ps, ts, b, d, n, e0, ms, str⟩ := x
  have HX0 := Lib.hid h0
  obtain ⟨Pps, Cps, e1, _⟩ := sl_shape h0.ps
  obtain ⟨Pts, Cts, e2, _⟩ := sl_shape h0.ts
  obtain ⟨Pms, Cms, e3, _⟩ := sl_shape h0.ms
  dsimp only at e1 e2 e3
  subst e1 e2 e3
  clear h0
  have hsz := HX0.out.sz
  dsimp only at hsz g4 g5 g6 g7
  have hB0 : Below w.heap.size w w := Below.refl _ _
  go_enter Tryd.func43, Tryd.ntmps43
  go_wp2_with fail
  refine (vref_is HV.out _).mono ?_
  rintro e w1 ⟨rfl, hb1⟩
  have hs1 : Below w.heap.size w w1 := Below.trans (by repeat (first | exact Below.refl _ _ | refine Below.alloc ?_ (by simp <;> omega) _)) (hb1.mono (by simp <;> omega))
  have c_e_0 : w1.cell? ⟨w.heap.size, 0, none⟩ = some (.int .i64 k) := (hb1.cell (by simp <;> omega)).trans (by go_simp)
  have c_e_1 : w1.cell? ⟨w.heap.size, 1, none⟩ = some (.slice Pps ps.length Cps) := (hb1.cell (by simp <;> omega)).trans (by go_simp)
  have c_e_2 : w1.cell? ⟨w.heap.size, 2, none⟩ = some (.slice Pts ts.length Cts) := (hb1.cell (by simp <;> omega)).trans (by go_simp)
  have c_e_3 : w1.cell? ⟨w.heap.size, 3, none⟩ = some (.int .i64 b) := (hb1.cell (by simp <;> omega)).trans (by go_simp)
  have c_e_4 : w1.cell? ⟨w.heap.size, 4, none⟩ = some (.int .i64 d) := (hb1.cell (by simp <;> omega)).trans (by go_simp)
  have c_e_5 : w1.cell? ⟨w.heap.size, 5, none⟩ = some (.int .i64 n) := (hb1.cell (by simp <;> omega)).trans (by go_simp)
  have c_e_6 : w1.cell? ⟨w.heap.size, 6, none⟩ = some (.int .i64 e0) := (hb1.cell (by simp <;> omega)).trans (by go_simp)
  have c_e_7 : w1.cell? ⟨w.heap.size, 7, none⟩ = some (.slice Pms ms.length Cms) := (hb1.cell (by simp <;> omega)).trans (by go_simp)
  have c_e_8 : w1.cell? ⟨w.heap.size, 8, none⟩ = some (.string str) := (hb1.cell (by simp <;> omega)).trans (by go_simp)
  have z_e : w.heap.size < _ := World.block_lt_of_cell? _ _ c_e_0
  have hB1 := below_two hB0 hs1
  clear hB0 hs1 hb1
  go_wp2_with fail
  refine (plain_word_is HW.out _ (by omega)).mono ?_
  rintro e w2 ⟨rfl, hb2⟩
  have hs2 := hb2
  replace c_e_0 := cell_later hs2 c_e_0
  replace c_e_1 := cell_later hs2 c_e_1
  replace c_e_2 := cell_later hs2 c_e_2
  replace c_e_3 := cell_later hs2 c_e_3
  replace c_e_4 := cell_later hs2 c_e_4
  replace c_e_5 := cell_later hs2 c_e_5
  replace c_e_6 := cell_later hs2 c_e_6
  replace c_e_7 := cell_later hs2 c_e_7
  replace c_e_8 := cell_later hs2 c_e_8
  clear z_e
  have z_e : w.heap.size < _ := World.block_lt_of_cell? _ _ c_e_0
  have hB2 := below_two hB1 hs2
  clear hB1 hs2
  go_wp2_with fail
  refine (refMarks_is HM.out _ ((HX0.out.later hB2)).ms).mono ?_
  rintro e w3 ⟨rfl, hb3⟩
  have hs3 := hb3
  replace c_e_0 := cell_later hs3 c_e_0
  replace c_e_1 := cell_later hs3 c_e_1
  replace c_e_2 := cell_later hs3 c_e_2
  replace c_e_3 := cell_later hs3 c_e_3
  replace c_e_4 := cell_later hs3 c_e_4
  replace c_e_5 := cell_later hs3 c_e_5
  replace c_e_6 := cell_later hs3 c_e_6
  replace c_e_7 := cell_later hs3 c_e_7
  replace c_e_8 := cell_later hs3 c_e_8
  clear z_e
  have z_e : w.heap.size < _ := World.block_lt_of_cell? _ _ c_e_0
  have hB3 := below_two hB2 hs3
  clear hB2 hs3
  go_wp2
  go_ret
  exact ⟨rfl, hB3⟩

set_option maxRecDepth 100000 in
set_option maxHeartbeats 8000000 in
theorem refER_7b (x : Ev) (vp vt vm : Value) (w : World) (h0 : EvR w vp vt vm x) (HV : Hid (Val.ok x.b x.d x.n x.e = true)) (HW : Hid (Evt.wordR x.s = true)) (HM : Hid (Evt.marksR x.ms = true)) (g4 : ((x.ts.length : Int) != (x.ps.length : Int)) = false) (g5 : (x.k == 0) = false) (g6 : (x.k != 1) = false) (g7 : ((x.ps.length : Int) == 0) = false) (g9 : (8 : Int) < (x.ps.length : Int)) :
    Calls Tryd.prog 43 #[evv x vp vt vm] w fun ed w' => ed = .returned (.bool false) ∧ Below w.heap.size w w' := by
  obtain ⟨k, ps, ts, b, d, n, e0, ms, str⟩ := x
  have HX0 := Lib.hid h0
  obtain ⟨Pps, Cps, e1, _⟩ := sl_shape h0.ps
  obtain ⟨Pts, Cts, e2, _⟩ := sl_shape h0.ts
  obtain ⟨Pms, Cms, e3, _⟩ := sl_shape h0.ms
  dsimp only at e1 e2 e3
  subst e1 e2 e3
  clear h0
  have hsz := HX0.out.sz
  dsimp only at hsz g4 g5 g6 g7 g9
  have hB0 : Below w.heap.size w w := Below.refl _ _
  go_enter Tryd.func43, Tryd.ntmps43
  go_wp2_with fail
  refine (vref_is HV.out _).mono ?_
  rintro e w1 ⟨rfl, hb1⟩
  have hs1 : Below w.heap.size w w1 := Below.trans (by repeat (first | exact Below.refl _ _ | refine Below.alloc ?_ (by simp <;> omega) _)) (hb1.mono (by simp <;> omega))
  have c_e_0 : w1.cell? ⟨w.heap.size, 0, none⟩ = some (.int .i64 k) := (hb1.cell (by simp <;> omega)).trans (by go_simp)
  have c_e_1 : w1.cell? ⟨w.heap.size, 1, none⟩ = some (.slice Pps ps.length Cps) := (hb1.cell (by simp <;> omega)).trans (by go_simp)
  have c_e_2 : w1.cell? ⟨w.heap.size, 2, none⟩ = some (.slice Pts ts.length Cts) := (hb1.cell (by simp <;> omega)).trans (by go_simp)
  have c_e_3 : w1.cell? ⟨w.heap.size, 3, none⟩ = some (.int .i64 b) := (hb1.cell (by simp <;> omega)).trans (by go_simp)
  have c_e_4 : w1.cell? ⟨w.heap.size, 4, none⟩ = some (.int .i64 d) := (hb1.cell (by simp <;> omega)).trans (by go_simp)
  have c_e_5 : w1.cell? ⟨w.heap.size, 5, none⟩ = some (.int .i64 n) := (hb1.cell (by simp <;> omega)).trans (by go_simp)
  have c_e_6 : w1.cell? ⟨w.heap.size, 6, none⟩ = some (.int .i64 e0) := (hb1.cell (by simp <;> omega)).trans (by go_simp)
  have c_e_7 : w1.cell? ⟨w.heap.size, 7, none⟩ = some (.slice Pms ms.length Cms) := (hb1.cell (by simp <;> omega)).trans (by go_simp)
  have c_e_8 : w1.cell? ⟨w.heap.size, 8, none⟩ = some (.string str) := (hb1.cell (by simp <;> omega)).trans (by go_simp)
  have z_e : w.heap.size < _ := World.block_lt_of_cell? _ _ c_e_0
  have hB1 := below_two hB0 hs1
  clear hB0 hs1 hb1
  go_wp2_with fail
  refine (plain_word_is HW.out _ (by omega)).mono ?_
  rintro e w2 ⟨rfl, hb2⟩
  have hs2 := hb2
  replace c_e_0 := cell_later hs2 c_e_0
  replace c_e_1 := cell_later hs2 c_e_1
  replace c_e_2 := cell_later hs2 c_e_2
  replace c_e_3 := cell_later hs2 c_e_3
  replace c_e_4 := cell_later hs2 c_e_4
  replace c_e_5 := cell_later hs2 c_e_5
  replace c_e_6 := cell_later hs2 c_e_6
  replace c_e_7 := cell_later hs2 c_e_7
  replace c_e_8 := cell_later hs2 c_e_8
  clear z_e
  have z_e : w.heap.size < _ := World.block_lt_of_cell? _ _ c_e_0
  have hB2 := below_two hB1 hs2
  clear hB1 hs2
  go_wp2_with fail
  refine (refMarks_is HM.out _ ((HX0.out.later hB2)).ms).mono ?_
  rintro e w3 ⟨rfl, hb3⟩
  have hs3 := hb3
  replace c_e_0 := cell_later hs3 c_e_0
  replace c_e_1 := cell_later hs3 c_e_1
  replace c_e_2 := cell_later hs3 c_e_2
  replace c_e_3 := cell_later hs3 c_e_3
  replace c_e_4 := cell_later hs3 c_e_4
  replace c_e_5 := cell_later hs3 c_e_5
  replace c_e_6 := cell_later hs3 c_e_6
  replace c_e_7 := cell_later hs3 c_e_7
  replace c_e_8 := cell_later hs3 c_e_8
  clear z_e
  have z_e : w.heap.size < _ := World.block_lt_of_cell? _ _ c_e_0
  have hB3 := below_two hB2 hs3
  clear hB2 hs3
  go_wp2
  go_ret
  exact ⟨rfl, hB3⟩

set_option maxRecDepth 100000 in
set_option maxHeartbeats 8000000 in
theorem refER_8 (x : Ev) (vp vt vm : Value) (ANS : Bool) (w : World) (h0 : EvR w vp vt vm x) (HV : Hid (Val.ok x.b x.d x.n x.e = true)) (HW : Hid (Evt.wordR x.s = true)) (HM : Hid (Evt.marksR x.ms = true)) (g4 : ((x.ts.length : Int) != (x.ps.length : Int)) = false) (g5 : (x.k == 0) = false) (g6 : (x.k != 1) = false) (g7 : ((x.ps.length : Int) == 0) = false) (g9 : ¬ (8 : Int) < (x.ps.length : Int)) (HA : Hid (ANS = (x.ps.all Evt.rgt && Evt.rise Evt.cp x.ps))) :
    Calls Tryd.prog 43 #[evv x vp vt vm] w fun ed w' => ed = .returned (.bool ANS) ∧ Below w.heap.size w w' := by
  obtain ⟨k, ps, ts, b, d, n, e0, ms, str⟩ := x
  have HX0 := Lib.hid h0
  obtain ⟨Pps, Cps, e1, _⟩ := sl_shape h0.ps
  obtain ⟨Pts, Cts, e2, _⟩ := sl_shape h0.ts
  obtain ⟨Pms, Cms, e3, _⟩ := sl_shape h0.ms
  dsimp only at e1 e2 e3
  subst e1 e2 e3
  clear h0
  have hsz := HX0.out.sz
  dsimp only at hsz g4 g5 g6 g7 g9
  have hB0 : Below w.heap.size w w := Below.refl _ _
  go_enter Tryd.func43, Tryd.ntmps43
  go_wp2_with fail
  refine (vref_is HV.out _).mono ?_
  rintro e w1 ⟨rfl, hb1⟩
  have hs1 : Below w.heap.size w w1 := Below.trans (by repeat (first | exact Below.refl _ _ | refine Below.alloc ?_ (by simp <;> omega) _)) (hb1.mono (by simp <;> omega))
  have c_e_0 : w1.cell? ⟨w.heap.size, 0, none⟩ = some (.int .i64 k) := (hb1.cell (by simp <;> omega)).trans (by go_simp)
  have c_e_1 : w1.cell? ⟨w.heap.size, 1, none⟩ = some (.slice Pps ps.length Cps) := (hb1.cell (by simp <;> omega)).trans (by go_simp)
  have c_e_2 : w1.cell? ⟨w.heap.size, 2, none⟩ = some (.slice Pts ts.length Cts) := (hb1.cell (by simp <;> omega)).trans (by go_simp)
  have c_e_3 : w1.cell? ⟨w.heap.size, 3, none⟩ = some (.int .i64 b) := (hb1.cell (by simp <;> omega)).trans (by go_simp)
  have c_e_4 : w1.cell? ⟨w.heap.size, 4, none⟩ = some (.int .i64 d) := (hb1.cell (by simp <;> omega)).trans (by go_simp)
  have c_e_5 : w1.cell? ⟨w.heap.size, 5, none⟩ = some (.int .i64 n) := (hb1.cell (by simp <;> omega)).trans (by go_simp)
  have c_e_6 : w1.cell? ⟨w.heap.size, 6, none⟩ = some (.int .i64 e0) := (hb1.cell (by simp <;> omega)).trans (by go_simp)
  have c_e_7 : w1.cell? ⟨w.heap.size, 7, none⟩ = some (.slice Pms ms.length Cms) := (hb1.cell (by simp <;> omega)).trans (by go_simp)
  have c_e_8 : w1.cell? ⟨w.heap.size, 8, none⟩ = some (.string str) := (hb1.cell (by simp <;> omega)).trans (by go_simp)
  have z_e : w.heap.size < _ := World.block_lt_of_cell? _ _ c_e_0
  have hB1 := below_two hB0 hs1
  clear hB0 hs1 hb1
  go_wp2_with fail
  refine (plain_word_is HW.out _ (by omega)).mono ?_
  rintro e w2 ⟨rfl, hb2⟩
  have hs2 := hb2
  replace c_e_0 := cell_later hs2 c_e_0
  replace c_e_1 := cell_later hs2 c_e_1
  replace c_e_2 := cell_later hs2 c_e_2
  replace c_e_3 := cell_later hs2 c_e_3
  replace c_e_4 := cell_later hs2 c_e_4
  replace c_e_5 := cell_later hs2 c_e_5
  replace c_e_6 := cell_later hs2 c_e_6
  replace c_e_7 := cell_later hs2 c_e_7
  replace c_e_8 := cell_later hs2 c_e_8
  clear z_e
  have z_e : w.heap.size < _ := World.block_lt_of_cell? _ _ c_e_0
  have hB2 := below_two hB1 hs2
  clear hB1 hs2
  go_wp2_with fail
  refine (refMarks_is HM.out _ ((HX0.out.later hB2)).ms).mono ?_
  rintro e w3 ⟨rfl, hb3⟩
  have hs3 := hb3
  replace c_e_0 := cell_later hs3 c_e_0
  replace c_e_1 := cell_later hs3 c_e_1
  replace c_e_2 := cell_later hs3 c_e_2
  replace c_e_3 := cell_later hs3 c_e_3
  replace c_e_4 := cell_later hs3 c_e_4
  replace c_e_5 := cell_later hs3 c_e_5
  replace c_e_6 := cell_later hs3 c_e_6
  replace c_e_7 := cell_later hs3 c_e_7
  replace c_e_8 := cell_later hs3 c_e_8
  clear z_e
  have z_e : w.heap.size < _ := World.block_lt_of_cell? _ _ c_e_0
  have hB3 := below_two hB2 hs3
  clear hB2 hs3
  go_wp2
  go_loopw [3] (fun i wr => RgRel ps w3 i wr) (fun i _ => ps.length - (intOf i).toNat)
  case atStart => exact ⟨0, Nat.zero_le _, rfl, rfl, rfl, Below.refl _ _⟩
  case round =>
    obtain ⟨k, hk, rfl, he, hr, hB⟩ := hrel
    have HE := Lib.hid he
    have HRS := Lib.hid hr
    clear he hr
    have c1 := cell_later hB c_e_1
    by_cases hlt : k < ps.length
    · obtain ⟨x, hx⟩ : ∃ x, ps[k]? = some x := ⟨_, List.getElem?_eq_getElem hlt⟩
      obtain ⟨bx, ox, ex, hcx, hcx', hcx''⟩ := pits_at ((HX0.out.later hB3).ps.later hB) hx
      subst ex
      have HX := Lib.hid hx
      clear hx
      obtain ⟨x0, x1, x2⟩ := x
      dsimp only at hcx hcx' hcx''
      have hlt' : (k : Int) < (ps.length : Int) := by omega
      cases hf : Evt.rgt (x0, x1, x2)
      · have HF := Lib.hid hf
        clear hf
        go_wp2_with fail
        have g_c1 := fun dd os => cell_regrown c1 dd os
        have g_hcx := fun dd os => cell_regrown hcx dd os
        have g_hcx' := fun dd os => cell_regrown hcx' dd os
        have g_hcx'' := fun dd os => cell_regrown hcx'' dd os
        have q0 : Hid (∀ dd os, Calls Tryd.prog 83 #[pt x0 x1 x2] (Go.Sort.grow (redrawn wr dd) os) fun e w'' => e = .returned (.bool false) ∧ ∃ p : Regrown, w'' = Go.Sort.grow (redrawn wr p.d) p.os) := Lib.hid (fun dd os => Calls.regrown_of (pref_is (p := (x0, x1, x2)) HF.out (Go.Sort.grow (redrawn wr dd) os)))
        refine wp_region_quiet_below (by kernel_rfl) (by kernel_rfl) ?_
        repeat (go_big_quiet_step (first | (go_at_call 83; with_reducible exact q0.out _ _)))
        refine wpQuiet_nil ?_
        intro _ hw'
        obtain ⟨⟨dq, osq⟩, hw''⟩ := hw'
        subst hw''
        replace c1 := g_c1 dq osq
        clear g_c1
        replace hcx := g_hcx dq osq
        clear g_hcx
        replace hcx' := g_hcx' dq osq
        clear g_hcx'
        replace hcx'' := g_hcx'' dq osq
        clear g_hcx''
        clear q0
        have hb_w9 := below_regrown wr dq osq
        generalize Go.Sort.grow (redrawn wr dq) osq = w9 at *
        go_wp2
        go_ret
        exact ⟨ret_bool (by rw [HA.out, Evt.all_not HX.out HF.out]; rfl), below_two hB3 (below_two hB hb_w9)⟩
      have HF := Lib.hid hf
      clear hf
      by_cases hk0 : k = 0
      · have d3 : decide ((0 : Int) < (k : Int)) = false := decide_eq_false (by omega)
        have d3n : decide (0 < k) = false := decide_eq_false (by omega)
        have HK0 := Lib.hid hk0
        clear hk0
        go_wp2_with fail
        have g_c1 := fun dd os => cell_regrown c1 dd os
        have g_hcx := fun dd os => cell_regrown hcx dd os
        have g_hcx' := fun dd os => cell_regrown hcx' dd os
        have g_hcx'' := fun dd os => cell_regrown hcx'' dd os
        have q0 : Hid (∀ dd os, Calls Tryd.prog 83 #[pt x0 x1 x2] (Go.Sort.grow (redrawn wr dd) os) fun e w'' => e = .returned (.bool true) ∧ ∃ p : Regrown, w'' = Go.Sort.grow (redrawn wr p.d) p.os) := Lib.hid (fun dd os => Calls.regrown_of (pref_is (p := (x0, x1, x2)) HF.out (Go.Sort.grow (redrawn wr dd) os)))
        refine wp_region_quiet_below (by kernel_rfl) (by kernel_rfl) ?_
        repeat (go_big_quiet_step (first | (go_at_call 83; with_reducible exact q0.out _ _)))
        refine wpQuiet_nil ?_
        intro _ hw'
        obtain ⟨⟨dq, osq⟩, hw''⟩ := hw'
        subst hw''
        replace c1 := g_c1 dq osq
        clear g_c1
        replace hcx := g_hcx dq osq
        clear g_hcx
        replace hcx' := g_hcx' dq osq
        clear g_hcx'
        replace hcx'' := g_hcx'' dq osq
        clear g_hcx''
        clear q0
        have hb_w9 := below_regrown wr dq osq
        generalize Go.Sort.grow (redrawn wr dq) osq = w9 at *
        go_wp2
        go_roundw
        case rel => exact ⟨k + 1, by omega, by go_num, Evt.all_take HX.out HE.out HF.out, by rw [HK0.out]; exact Evt.rise_one _ _, below_two hB hb_w9⟩
        case measure => simp [intOf]; omega
      · have hk1 : 0 < k := by omega
        obtain ⟨y, hy⟩ : ∃ y, ps[k - 1]? = some y := ⟨_, List.getElem?_eq_getElem (by omega)⟩
        obtain ⟨by', oy, ey, hcy, hcy', hcy''⟩ := pits_at ((HX0.out.later hB3).ps.later hB) hy
        cases ey
        have HY := Lib.hid hy
        clear hy
        obtain ⟨y0, y1, y2⟩ := y
        dsimp only at hcy hcy' hcy''
        have d3 : decide ((0 : Int) < (k : Int)) = true := decide_eq_true (by omega)
        have d3n : decide (0 < k) = true := decide_eq_true (by omega)
        have hw1 : IntKind.i64.wrap ((k : Int) - 1) = (k : Int) - 1 := IntWalk.i64_in _ (by omega)
        have hn1 : ((k : Int) - 1).toNat = k - 1 := by omega
        have hlt2 : k - 1 < ps.length := by omega
        have hlt3 : (k : Int) - 1 < (ps.length : Int) := by omega
        have hn0 : 0 ≤ (k : Int) - 1 := by omega
        obtain ⟨cv, HV⟩ : ∃ cv, Hid (Evt.cp (x0, x1, x2) (y0, y1, y2) = cv) := ⟨_, Lib.hid rfl⟩
        by_cases hcv : cv ≤ 0
        · have d4 : decide (cv ≤ 0) = true := decide_eq_true hcv
          have HCV := Lib.hid hcv
          clear hcv
          go_wp2_with fail
          have g_c1 := fun dd os => cell_regrown c1 dd os
          have g_hcx := fun dd os => cell_regrown hcx dd os
          have g_hcx' := fun dd os => cell_regrown hcx' dd os
          have g_hcx'' := fun dd os => cell_regrown hcx'' dd os
          have g_hcy := fun dd os => cell_regrown hcy dd os
          have g_hcy' := fun dd os => cell_regrown hcy' dd os
          have g_hcy'' := fun dd os => cell_regrown hcy'' dd os
          have q0 : Hid (∀ dd os, Calls Tryd.prog 83 #[pt x0 x1 x2] (Go.Sort.grow (redrawn wr dd) os) fun e w'' => e = .returned (.bool true) ∧ ∃ p : Regrown, w'' = Go.Sort.grow (redrawn wr p.d) p.os) := Lib.hid (fun dd os => Calls.regrown_of (pref_is (p := (x0, x1, x2)) HF.out (Go.Sort.grow (redrawn wr dd) os)))
          have q1 : Hid (∀ dd os, Calls Tryd.prog 84 #[pt x0 x1 x2, pt y0 y1 y2] (Go.Sort.grow (redrawn wr dd) os) fun e w'' => e = .returned (.int .i64 cv) ∧ ∃ p : Regrown, w'' = Go.Sort.grow (redrawn wr p.d) p.os) := Lib.hid (fun dd os => Calls.regrown_of (cref_is (p := (x0, x1, x2)) (q := (y0, y1, y2)) HV.out (Go.Sort.grow (redrawn wr dd) os)))
          refine wp_region_quiet_below (by kernel_rfl) (by kernel_rfl) ?_
          repeat (go_big_quiet_step (first | (go_at_call 83; with_reducible exact q0.out _ _) | (go_at_call 84; with_reducible exact q1.out _ _)))
          refine wpQuiet_nil ?_
          intro _ hw'
          obtain ⟨⟨dq, osq⟩, hw''⟩ := hw'
          subst hw''
          replace c1 := g_c1 dq osq
          clear g_c1
          replace hcx := g_hcx dq osq
          clear g_hcx
          replace hcx' := g_hcx' dq osq
          clear g_hcx'
          replace hcx'' := g_hcx'' dq osq
          clear g_hcx''
          replace hcy := g_hcy dq osq
          clear g_hcy
          replace hcy' := g_hcy' dq osq
          clear g_hcy'
          replace hcy'' := g_hcy'' dq osq
          clear g_hcy''
          clear q0 q1
          have hb_w9 := below_regrown wr dq osq
          generalize Go.Sort.grow (redrawn wr dq) osq = w9 at *
          go_wp2
          go_ret
          exact ⟨ret_bool (by rw [HA.out, rise_not' hk1 HY.out HX.out (by rw [HV.out]; have := HCV.out; omega), Bool.and_false]), below_two hB3 (below_two hB hb_w9)⟩
        · have d4 : decide (cv ≤ 0) = false := decide_eq_false hcv
          have HCV := Lib.hid hcv
          clear hcv
          go_wp2_with fail
          have g_c1 := fun dd os => cell_regrown c1 dd os
          have g_hcx := fun dd os => cell_regrown hcx dd os
          have g_hcx' := fun dd os => cell_regrown hcx' dd os
          have g_hcx'' := fun dd os => cell_regrown hcx'' dd os
          have g_hcy := fun dd os => cell_regrown hcy dd os
          have g_hcy' := fun dd os => cell_regrown hcy' dd os
          have g_hcy'' := fun dd os => cell_regrown hcy'' dd os
          have q0 : Hid (∀ dd os, Calls Tryd.prog 83 #[pt x0 x1 x2] (Go.Sort.grow (redrawn wr dd) os) fun e w'' => e = .returned (.bool true) ∧ ∃ p : Regrown, w'' = Go.Sort.grow (redrawn wr p.d) p.os) := Lib.hid (fun dd os => Calls.regrown_of (pref_is (p := (x0, x1, x2)) HF.out (Go.Sort.grow (redrawn wr dd) os)))
          have q1 : Hid (∀ dd os, Calls Tryd.prog 84 #[pt x0 x1 x2, pt y0 y1 y2] (Go.Sort.grow (redrawn wr dd) os) fun e w'' => e = .returned (.int .i64 cv) ∧ ∃ p : Regrown, w'' = Go.Sort.grow (redrawn wr p.d) p.os) := Lib.hid (fun dd os => Calls.regrown_of (cref_is (p := (x0, x1, x2)) (q := (y0, y1, y2)) HV.out (Go.Sort.grow (redrawn wr dd) os)))
          refine wp_region_quiet_below (by kernel_rfl) (by kernel_rfl) ?_
          repeat (go_big_quiet_step (first | (go_at_call 83; with_reducible exact q0.out _ _) | (go_at_call 84; with_reducible exact q1.out _ _)))
          refine wpQuiet_nil ?_
          intro _ hw'
          obtain ⟨⟨dq, osq⟩, hw''⟩ := hw'
          subst hw''
          replace c1 := g_c1 dq osq
          clear g_c1
          replace hcx := g_hcx dq osq
          clear g_hcx
          replace hcx' := g_hcx' dq osq
          clear g_hcx'
          replace hcx'' := g_hcx'' dq osq
          clear g_hcx''
          replace hcy := g_hcy dq osq
          clear g_hcy
          replace hcy' := g_hcy' dq osq
          clear g_hcy'
          replace hcy'' := g_hcy'' dq osq
          clear g_hcy''
          clear q0 q1
          have hb_w9 := below_regrown wr dq osq
          generalize Go.Sort.grow (redrawn wr dq) osq = w9 at *
          go_wp2
          clear hw1 hn1 hlt3 hn0
          go_roundw
          case rel => exact ⟨k + 1, by omega, by go_num, Evt.all_take HX.out HE.out HF.out, rise_take' hk1 HY.out HX.out HRS.out (by rw [HV.out]; have := HCV.out; omega), below_two hB hb_w9⟩
          case measure => simp [intOf]; omega
    · obtain rfl : k = ps.length := by omega
      have hge : ¬ (ps.length : Int) < (ps.length : Int) := by omega
      go_wp2
      go_ret
      exact ⟨ret_bool (by have h1 := HE.out; have h2 := HRS.out; rw [List.take_length] at h1 h2; rw [HA.out, h1, h2]; rfl), below_two hB3 hB⟩

theorem refERight_any (x : Ev) (vp vt vm : Value) (w : World) (h : EvR w vp vt vm x) : Calls Tryd.prog 43 #[evv x vp vt vm] w fun ed w' => ed = .returned (.bool (Evt.right x)) ∧ Below w.heap.size w w' := by
  unfold Evt.right
  cases hv : Val.ok x.b x.d x.n x.e
  · exact refER_1 x _ _ _ w h (Lib.hid hv)
  cases hw : Evt.wordR x.s
  · exact refER_2 x _ _ _ w h (Lib.hid hv) (Lib.hid hw)
  cases hm : Evt.marksR x.ms
  · exact refER_3 x _ _ _ w h (Lib.hid hv) (Lib.hid hw) (Lib.hid hm)
  have eN : ∀ {a : Nat}, a = 0 → ((a : Int) == 0) = true := fun h => by simp [h]
  have nN : ∀ {a : Nat}, ¬ a = 0 → ((a : Int) == 0) = false := fun h => by simp [h]
  simp only [Bool.true_and]
  have HV := Lib.hid hv
  have HW := Lib.hid hw
  have HM := Lib.hid hm
  unfold Evt.kindR Evt.restR Evt.chordR
  by_cases ht : x.ts.length = x.ps.length
  case neg =>
    have e : ((x.ts.length : Int) != (x.ps.length : Int)) = true := by simp; omega
    have r := refER_4 x _ _ _ w h HV HW HM e
    by_cases k0 : x.k = 0
    · rw [if_pos k0]
      by_cases p0 : x.ps.length = 0
      · rw [decide_eq_true p0, decide_eq_false (show ¬ x.ts.length = 0 by omega)]; exact r
      · rw [decide_eq_false p0]; exact r
    · rw [if_neg k0]
      by_cases k1 : x.k = 1
      · rw [if_pos k1, decide_eq_false ht, Bool.and_false]; exact r
      · rw [if_neg k1]; exact r
  case pos =>
  have e : ((x.ts.length : Int) != (x.ps.length : Int)) = false := by simp; omega
  by_cases k0 : x.k = 0
  · rw [if_pos k0]
    have e0 : (x.k == 0) = true := by simpa using k0
    by_cases p0 : x.ps.length = 0
    case neg => rw [decide_eq_false p0]; exact refER_5a x _ _ _ w h HV HW HM e e0 (nN p0)
    case pos =>
    rw [decide_eq_true p0, decide_eq_true (show x.ts.length = 0 by omega)]
    by_cases s0 : x.s.size = 0
    case neg => rw [decide_eq_false s0]; exact refER_5b x _ _ _ w h HV HW HM e e0 (eN p0) (nN s0)
    case pos =>
    rw [decide_eq_true s0, ferm_all hm]
    by_cases m0 : x.ms.length = 0
    · rw [decide_eq_true m0]; exact refER_5c x _ _ _ w h HV HW HM e e0 (eN p0) (eN s0) (eN m0)
    · obtain ⟨m, hm0⟩ : ∃ m, x.ms[0]? = some m := ⟨_, List.getElem?_eq_getElem (by omega)⟩
      rw [decide_eq_false m0, hm0]
      by_cases m4 : m = 4
      · rw [decide_eq_true (by rw [m4])]; exact refER_5dt x _ _ _ m w h HV HW HM e e0 (eN p0) (eN s0) (nN m0) hm0 (by simpa using m4)
      · rw [decide_eq_false (fun g => m4 (Option.some.inj g))]; exact refER_5df x _ _ _ m w h HV HW HM e e0 (eN p0) (eN s0) (nN m0) hm0 (by simpa using m4)
  · rw [if_neg k0]
    have e0 : (x.k == 0) = false := by simpa using k0
    by_cases k1 : x.k = 1
    case neg => rw [if_neg k1]; exact refER_6 x _ _ _ w h HV HW HM e e0 (by simpa using k1)
    case pos =>
    rw [if_pos k1, decide_eq_true ht, Bool.and_true]
    have e1 : (x.k != 1) = false := by simpa using k1
    by_cases p0 : x.ps.length = 0
    · rw [decide_eq_false (by omega)]; exact refER_7a x _ _ _ w h HV HW HM e e0 e1 (eN p0)
    by_cases p8 : (8 : Int) < (x.ps.length : Int)
    · rw [decide_eq_false (by omega)]; exact refER_7b x _ _ _ w h HV HW HM e e0 e1 (nN p0) p8
    · rw [decide_eq_true (by omega), Bool.true_and]; exact refER_8 x _ _ _ _ w h HV HW HM e e0 e1 (nN p0) p8 (Lib.hid rfl)
theorem refERight_is {x : Ev} {q : Bool} (hq : Evt.right x = q) (vp vt vm : Value) (w : World) (h : EvR w vp vt vm x) : Calls Tryd.prog 43 #[evv x vp vt vm] w fun ed w' => ed = .returned (.bool q) ∧ Below w.heap.size w w' := by subst hq; exact refERight_any x _ _ _ w h
end Go.Proofs.YtnfnonlbokddfaaDoor
