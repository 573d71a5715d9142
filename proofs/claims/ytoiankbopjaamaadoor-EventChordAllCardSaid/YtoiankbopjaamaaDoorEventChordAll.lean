/-
  EventChordAll answers true: the law's walk.
-/
import Derived.Test.YtoiankbopjaamaaDoorEvLaw
namespace Go.Proofs.YtoiankbopjaamaaDoor
open Go.RowKit
open Evt (P3 Ev PT)

/-- Is that pitch there? -/
def thr (L : List PT) (q : P3) : Bool := L.any fun x => decide (x.1 = q)
theorem thr_append (L M : List PT) (q : P3) : thr (L ++ M) q = (thr L q || thr M q) := by simp [thr, List.any_append]
theorem thr_mem {L : List PT} {q : P3} : thr L q = true ↔ q ∈ L.map Prod.fst := by
  unfold thr
  rw [List.any_eq_true, List.mem_map]
  constructor
  · rintro ⟨x, hx, h⟩; exact ⟨x, hx, of_decide_eq_true h⟩
  · rintro ⟨x, hx, h⟩; exact ⟨x, hx, decide_eq_true h⟩
theorem eqP_dec (x0 x1 x2 q0 q1 q2 : Int) : eqP x0 x1 x2 q0 q1 q2 = decide (((x0, x1, x2) : P3) = (q0, q1, q2)) := by
  rw [Bool.eq_iff_iff, eqP_iff, decide_eq_true_iff]
  constructor
  · rintro ⟨rfl, rfl, rfl⟩; rfl
  · intro h; cases h; exact ⟨rfl, rfl, rfl⟩
theorem all_step {x : Ev} {L0 : List PT} {j : Nat} {x0 x1 x2 q0 q1 q2 : Int} {t e a b : Bool} (hp : x.ps[j]? = some (x0, x1, x2)) (ht : x.ts[j]? = some t) (he : eqP x0 x1 x2 q0 q1 q2 = e) (ha : a = thr (L0 ++ (Evt.pts x).take j) (q0, q1, q2)) (hb : b = Evt.tie (L0 ++ (Evt.pts x).take j) (q0, q1, q2)) :
    (a || e) = thr (L0 ++ (Evt.pts x).take (j + 1)) (q0, q1, q2) ∧ (b || (e && t)) = Evt.tie (L0 ++ (Evt.pts x).take (j + 1)) (q0, q1, q2) := by
  rw [pts_take hp ht, ← List.append_assoc, thr_append, Evt.tie_append, ← ha, ← hb, ← he, eqP_dec]
  simp [thr, Evt.tie]
theorem pts_min {x : Ev} {j : Nat} (h : ¬ j < x.ps.length ∨ ¬ j < x.ts.length) : (Evt.pts x).take j = Evt.pts x := by
  refine List.take_of_length_le ?_
  unfold Evt.pts
  rw [List.length_zip]
  omega
def AllR1 (ys : List EM) (q : P3) (w : World) (a b i : Value) (wr : World) : Prop := ∃ k : Nat, k ≤ ys.length ∧ a = .bool (thr (flE (ys.take k)) q) ∧ b = .bool (Evt.tie (flE (ys.take k)) q) ∧ i = .int .i64 (k : Int) ∧ Below w.heap.size w wr
def AllR2 (x : Ev) (L0 : List PT) (q : P3) (w : World) (a b i : Value) (wr : World) : Prop := ∃ j : Nat, j ≤ x.ps.length ∧ a = .bool (thr (L0 ++ (Evt.pts x).take j) q) ∧ b = .bool (Evt.tie (L0 ++ (Evt.pts x).take j) q) ∧ i = .int .i64 (j : Int) ∧ Below w.heap.size w wr
theorem chordE_zero {l : List Ev} {Z : Ev} {er : Int} (h : Evt.chordE l = (Z, er)) (h0 : er ≠ 0) : Z = Evt.zero := by
  cases l with
  | nil => exact (Prod.mk.inj h).1.symm
  | cons x l =>
    rw [Evt.chordE_cons] at h
    cases h1 : (x :: l).all Evt.right
    · rw [h1] at h; exact (Prod.mk.inj h).1.symm
    cases h2 : (x :: l).all (Evt.sameVal x)
    · rw [h1, h2] at h; exact (Prod.mk.inj h).1.symm
    rw [h1, h2] at h
    have h : Evt.rightAlone (Evt.one x l) = (Z, er) := h
    unfold Evt.rightAlone at h
    cases hr : Evt.right (Evt.one x l)
    · rw [hr] at h; exact (Prod.mk.inj h).1.symm
    · rw [hr] at h; exact absurd (Prod.mk.inj h).2.symm h0
/-- A chord has what its events have. -/
theorem chordAll_told {l : List Ev} {Z : Ev} (h : Evt.chordE l = (Z, 0)) (q : P3) : Evt.IsR Z ∧ thr (Evt.pts Z) q = thr (Evt.fl l) q ∧ Evt.tie (Evt.pts Z) q = Evt.tie (Evt.fl l) q := by
  cases l with
  | nil => cases h
  | cons x l =>
    rw [Evt.chordE_cons] at h
    cases h1 : (x :: l).all Evt.right
    · rw [h1] at h; cases h
    cases h2 : (x :: l).all (Evt.sameVal x)
    · rw [h1, h2] at h; cases h
    rw [h1, h2] at h
    have h : Evt.rightAlone (Evt.one x l) = (Z, 0) := h
    unfold Evt.rightAlone at h
    cases hr : Evt.right (Evt.one x l)
    · rw [hr] at h; cases h
    rw [hr] at h
    obtain rfl : Evt.one x l = Z := (Prod.mk.inj h).1
    obtain ⟨_, _, a3, a4⟩ := Evt.allP_told (Evt.fl_rgt (Evt.all_isR h1))
    have e : Evt.pts (Evt.one x l) = Evt.allP (x :: l) := by
      show ((Evt.allP (x :: l)).map Prod.fst).zip ((Evt.allP (x :: l)).map Prod.snd) = _
      rw [← List.unzip_fst, ← List.unzip_snd, List.zip_unzip]
    refine ⟨(Evt.right_iff _).1 hr, ?_, ?_⟩
    · rw [e, Bool.eq_iff_iff, thr_mem, thr_mem, a3]
    · rw [e, a4]

set_option maxRecDepth 100000 in
set_option maxHeartbeats 40000000 in
theorem chordAll_few (v : Value) (ys : List EM) (q0 q1 q2 : Int) (w : World) (h : Evs w v ys) (hR : Ready w) (hq : fewL (ys.map Prod.fst) = false) :
    Calls Tryd.prog 11 #[v, pt q0 q1 q2] w fun ed w' => ed = .returned (.bool true) ∧ Below w.heap.size w w' := by
  have hgP := guardP
  have heP := eql_pt
  have HC := Lib.hid h
  obtain ⟨p0, c0, rfl, hl1⟩ := sl_shape h.row
  clear h
  have HQ := Lib.hid hq
  clear hq
  have hB0 : Below w.heap.size w w := Below.refl _ _
  go_enter Tryd.func11, Tryd.ntmps11
  go_wp2_with fail
  have hR' := hR.below (hB0.alloc hB0.size (.cells #[.int .i64 q0, .int .i64 q1, .int .i64 q2] 46))
  refine (awake_any _ hR').mono ?_
  rintro e w1 ⟨rfl, hb1⟩
  clear hR'
  have hs1 : Below w.heap.size w w1 := Below.trans (by repeat (first | exact Below.refl _ _ | refine Below.alloc ?_ (by simp <;> omega) _)) (hb1.mono (by simp <;> omega))
  have c_p_0 : w1.cell? ⟨w.heap.size, 0, none⟩ = some (.int .i64 q0) := (hb1.cell (by simp <;> omega)).trans (by go_simp)
  have c_p_1 : w1.cell? ⟨w.heap.size, 1, none⟩ = some (.int .i64 q1) := (hb1.cell (by simp <;> omega)).trans (by go_simp)
  have c_p_2 : w1.cell? ⟨w.heap.size, 2, none⟩ = some (.int .i64 q2) := (hb1.cell (by simp <;> omega)).trans (by go_simp)
  have z_p : w.heap.size < _ := World.block_lt_of_cell? _ _ c_p_0
  have hB1 := below_two hB0 hs1
  clear hB0 hs1 hb1
  go_wp2_with fail
  have hs2 : Below w1.heap.size w1 w1 := by repeat (first | exact Below.refl _ _ | refine Below.alloc ?_ (by simp <;> omega) _)
  replace c_p_0 := cell_later hs2 c_p_0
  replace c_p_1 := cell_later hs2 c_p_1
  replace c_p_2 := cell_later hs2 c_p_2
  have hB2 := below_two hB1 hs2
  clear hB1 hs2
  have y2_p := z_p
  generalize w1 = w2 at *
  clear z_p
  have z_p : w.heap.size < _ := World.block_lt_of_cell? _ _ c_p_0
  go_wp2_with fail
  have hR' := hR.below hB2
  refine (fewL_is HQ.out _ _ (HC.out.later hB2)).mono ?_
  rintro e w3 ⟨rfl, hb3⟩
  clear hR'
  have hs3 := hb3
  replace c_p_0 := cell_later hs3 c_p_0
  replace c_p_1 := cell_later hs3 c_p_1
  replace c_p_2 := cell_later hs3 c_p_2
  clear z_p
  have z_p : w.heap.size < _ := World.block_lt_of_cell? _ _ c_p_0
  have hB3 := below_two hB2 hs3
  clear hB2 hs3
  go_wp2
  go_ret
  exact ⟨rfl, hB3⟩

set_option maxRecDepth 100000 in
set_option maxHeartbeats 40000000 in
theorem chordAll_bad (v : Value) (ys : List EM) (q0 q1 q2 : Int) (er : Int) (w : World) (h : Evs w v ys) (hR : Ready w) (hq : fewL (ys.map Prod.fst) = true) (hch : Evt.chordE (ys.map Prod.fst) = (Evt.zero, er)) (hne : (er == 0) = false) (h6 : ys.length ≤ 6) :
    Calls Tryd.prog 11 #[v, pt q0 q1 q2] w fun ed w' => ed = .returned (.bool true) ∧ Below w.heap.size w w' := by
  have hgP := guardP
  have heP := eql_pt
  have HC := Lib.hid h
  obtain ⟨p0, c0, rfl, hl1⟩ := sl_shape h.row
  clear h
  have HQ := Lib.hid hq
  clear hq
  have HCH := Lib.hid hch
  clear hch
  have HNE := Lib.hid hne
  clear hne
  have H6 := Lib.hid h6
  clear h6
  have hB0 : Below w.heap.size w w := Below.refl _ _
  go_enter Tryd.func11, Tryd.ntmps11
  go_wp2_with fail
  have hR' := hR.below (hB0.alloc hB0.size (.cells #[.int .i64 q0, .int .i64 q1, .int .i64 q2] 46))
  refine (awake_any _ hR').mono ?_
  rintro e w1 ⟨rfl, hb1⟩
  clear hR'
  have hs1 : Below w.heap.size w w1 := Below.trans (by repeat (first | exact Below.refl _ _ | refine Below.alloc ?_ (by simp <;> omega) _)) (hb1.mono (by simp <;> omega))
  have c_p_0 : w1.cell? ⟨w.heap.size, 0, none⟩ = some (.int .i64 q0) := (hb1.cell (by simp <;> omega)).trans (by go_simp)
  have c_p_1 : w1.cell? ⟨w.heap.size, 1, none⟩ = some (.int .i64 q1) := (hb1.cell (by simp <;> omega)).trans (by go_simp)
  have c_p_2 : w1.cell? ⟨w.heap.size, 2, none⟩ = some (.int .i64 q2) := (hb1.cell (by simp <;> omega)).trans (by go_simp)
  have z_p : w.heap.size < _ := World.block_lt_of_cell? _ _ c_p_0
  have hB1 := below_two hB0 hs1
  clear hB0 hs1 hb1
  go_wp2_with fail
  have hs2 : Below w1.heap.size w1 w1 := by repeat (first | exact Below.refl _ _ | refine Below.alloc ?_ (by simp <;> omega) _)
  replace c_p_0 := cell_later hs2 c_p_0
  replace c_p_1 := cell_later hs2 c_p_1
  replace c_p_2 := cell_later hs2 c_p_2
  have hB2 := below_two hB1 hs2
  clear hB1 hs2
  have y2_p := z_p
  generalize w1 = w2 at *
  clear z_p
  have z_p : w.heap.size < _ := World.block_lt_of_cell? _ _ c_p_0
  have HNE' := HNE.out
  have h6 := H6.out
  go_wp2_with fail
  have hR' := hR.below hB2
  refine (fewL_is HQ.out _ _ (HC.out.later hB2)).mono ?_
  rintro e w3 ⟨rfl, hb3⟩
  clear hR'
  have hs3 := hb3
  replace c_p_0 := cell_later hs3 c_p_0
  replace c_p_1 := cell_later hs3 c_p_1
  replace c_p_2 := cell_later hs3 c_p_2
  clear z_p
  have z_p : w.heap.size < _ := World.block_lt_of_cell? _ _ c_p_0
  have hB3 := below_two hB2 hs3
  clear hB2 hs3
  go_wp2_with fail
  have hR' := hR.below hB3
  refine (chord_is (ys := ys) HCH.out _ _ (HC.out.later hB3) (by omega) hR').mono ?_
  rintro e w4 ⟨vp, vt, vm, rfl, hev, hb4⟩
  clear hR'
  have hs4 := hb4
  replace c_p_0 := cell_later hs4 c_p_0
  replace c_p_1 := cell_later hs4 c_p_1
  replace c_p_2 := cell_later hs4 c_p_2
  clear z_p
  have z_p : w.heap.size < _ := World.block_lt_of_cell? _ _ c_p_0
  have hB4 := below_two hB3 hs4
  clear hB3 hs4
  dsimp only at hev
  obtain ⟨pa, ca, e3, _⟩ := sl_shape hev.ps
  have e3 : vp = .slice pa 0 ca := e3
  obtain ⟨qa, da, e4, _⟩ := sl_shape hev.ts
  have e4 : vt = .slice qa 0 da := e4
  obtain ⟨ra, fa, e5, _⟩ := sl_shape hev.ms
  have e5 : vm = .slice ra 0 fa := e5
  subst e3 e4 e5
  clear hev
  go_wp2
  go_ret
  exact ⟨rfl, (hB4.alloc hB4.size (.cells #[.int .i64 Evt.zero.k, .slice pa 0 ca, .slice qa 0 da, .int .i64 Evt.zero.b, .int .i64 Evt.zero.d, .int .i64 Evt.zero.n, .int .i64 Evt.zero.e, .slice ra 0 fa, .string Evt.zero.s] 28))⟩

set_option maxRecDepth 100000 in
set_option maxHeartbeats 40000000 in
theorem chordAll_ok (v : Value) (ys : List EM) (q0 q1 q2 : Int) (Z : Ev) (TA TB kb : Bool) (w : World) (h : Evs w v ys) (hR : Ready w) (hq : fewL (ys.map Prod.fst) = true) (hch : Evt.chordE (ys.map Prod.fst) = (Z, 0)) (h6 : ys.length ≤ 6) (hz : Evt.right Z = true) (hl : Z.ts.length = Z.ps.length) (h1 : thr (Evt.pts Z) (q0, q1, q2) = TA) (h2 : Evt.tie (Evt.pts Z) (q0, q1, q2) = TB) (h3 : thr (flE ys) (q0, q1, q2) = TA) (h4 : Evt.tie (flE ys) (q0, q1, q2) = TB) (hk1 : decide ((0 : Int) < (Z.ps.length : Int)) = kb) (hk2 : decide (0 < Z.ps.length) = kb) (hk3 : (Z.k == 1) = kb) :
    Calls Tryd.prog 11 #[v, pt q0 q1 q2] w fun ed w' => ed = .returned (.bool true) ∧ Below w.heap.size w w' := by
  have hgP := guardP
  have heP := eql_pt
  have HC := Lib.hid h
  obtain ⟨p0, c0, rfl, hl1⟩ := sl_shape h.row
  clear h
  have HQ := Lib.hid hq
  clear hq
  have HCH := Lib.hid hch
  clear hch
  have H6 := Lib.hid h6
  clear h6
  have HZ := Lib.hid hz
  clear hz
  have HL := Lib.hid hl
  clear hl
  have H1 := Lib.hid h1
  clear h1
  have H2 := Lib.hid h2
  clear h2
  have H3 := Lib.hid h3
  clear h3
  have H4 := Lib.hid h4
  clear h4
  have HK1 := Lib.hid hk1
  clear hk1
  have HK2 := Lib.hid hk2
  clear hk2
  have HK3 := Lib.hid hk3
  clear hk3
  have hB0 : Below w.heap.size w w := Below.refl _ _
  go_enter Tryd.func11, Tryd.ntmps11
  go_wp2_with fail
  have hR' := hR.below (hB0.alloc hB0.size (.cells #[.int .i64 q0, .int .i64 q1, .int .i64 q2] 46))
  refine (awake_any _ hR').mono ?_
  rintro e w1 ⟨rfl, hb1⟩
  clear hR'
  have hs1 : Below w.heap.size w w1 := Below.trans (by repeat (first | exact Below.refl _ _ | refine Below.alloc ?_ (by simp <;> omega) _)) (hb1.mono (by simp <;> omega))
  have c_p_0 : w1.cell? ⟨w.heap.size, 0, none⟩ = some (.int .i64 q0) := (hb1.cell (by simp <;> omega)).trans (by go_simp)
  have c_p_1 : w1.cell? ⟨w.heap.size, 1, none⟩ = some (.int .i64 q1) := (hb1.cell (by simp <;> omega)).trans (by go_simp)
  have c_p_2 : w1.cell? ⟨w.heap.size, 2, none⟩ = some (.int .i64 q2) := (hb1.cell (by simp <;> omega)).trans (by go_simp)
  have z_p : w.heap.size < _ := World.block_lt_of_cell? _ _ c_p_0
  have hB1 := below_two hB0 hs1
  clear hB0 hs1 hb1
  go_wp2_with fail
  have hs2 : Below w1.heap.size w1 w1 := by repeat (first | exact Below.refl _ _ | refine Below.alloc ?_ (by simp <;> omega) _)
  replace c_p_0 := cell_later hs2 c_p_0
  replace c_p_1 := cell_later hs2 c_p_1
  replace c_p_2 := cell_later hs2 c_p_2
  have hB2 := below_two hB1 hs2
  clear hB1 hs2
  have y2_p := z_p
  generalize w1 = w2 at *
  clear z_p
  have z_p : w.heap.size < _ := World.block_lt_of_cell? _ _ c_p_0
  have h6 := H6.out
  go_wp2_with fail
  have hR' := hR.below hB2
  refine (fewL_is HQ.out _ _ (HC.out.later hB2)).mono ?_
  rintro e w3 ⟨rfl, hb3⟩
  clear hR'
  have hs3 := hb3
  replace c_p_0 := cell_later hs3 c_p_0
  replace c_p_1 := cell_later hs3 c_p_1
  replace c_p_2 := cell_later hs3 c_p_2
  clear z_p
  have z_p : w.heap.size < _ := World.block_lt_of_cell? _ _ c_p_0
  have hB3 := below_two hB2 hs3
  clear hB2 hs3
  go_wp2_with fail
  have hR' := hR.below hB3
  refine (chord_is (ys := ys) HCH.out _ _ (HC.out.later hB3) (by omega) hR').mono ?_
  rintro e w4 ⟨vp, vt, vm, rfl, hev, hb4⟩
  clear hR'
  have hs4 := hb4
  replace c_p_0 := cell_later hs4 c_p_0
  replace c_p_1 := cell_later hs4 c_p_1
  replace c_p_2 := cell_later hs4 c_p_2
  clear z_p
  have z_p : w.heap.size < _ := World.block_lt_of_cell? _ _ c_p_0
  have hB4 := below_two hB3 hs4
  clear hB3 hs4
  dsimp only at hev
  obtain ⟨pc, cc, e3, _⟩ := sl_shape hev.ps
  obtain ⟨qc, dc, e4, _⟩ := sl_shape hev.ts
  obtain ⟨rc, fc, e5, _⟩ := sl_shape hev.ms
  subst e3 e4 e5
  have HVc := Lib.hid hev
  have SVc : Hid (Since w4 w4) := Lib.hid (Since.refl _)
  clear hev
  go_wp2_with fail
  have hs5 : Below w4.heap.size w4 (w4.alloc (.cells #[.int .i64 Z.k, .slice pc Z.ps.length cc, .slice qc Z.ts.length dc, .int .i64 Z.b, .int .i64 Z.d, .int .i64 Z.n, .int .i64 Z.e, .slice rc Z.ms.length fc, .string Z.s] 28)) := by repeat (first | exact Below.refl _ _ | refine Below.alloc ?_ (by simp <;> omega) _)
  replace SVc := Lib.hid (SVc.out.later hs5)
  replace c_p_0 := cell_later hs5 c_p_0
  replace c_p_1 := cell_later hs5 c_p_1
  replace c_p_2 := cell_later hs5 c_p_2
  have c_c_0 : (w4.alloc (.cells #[.int .i64 Z.k, .slice pc Z.ps.length cc, .slice qc Z.ts.length dc, .int .i64 Z.b, .int .i64 Z.d, .int .i64 Z.n, .int .i64 Z.e, .slice rc Z.ms.length fc, .string Z.s] 28)).cell? ⟨w4.heap.size, 0, none⟩ = some (.int .i64 Z.k) := by go_simp
  have c_c_1 : (w4.alloc (.cells #[.int .i64 Z.k, .slice pc Z.ps.length cc, .slice qc Z.ts.length dc, .int .i64 Z.b, .int .i64 Z.d, .int .i64 Z.n, .int .i64 Z.e, .slice rc Z.ms.length fc, .string Z.s] 28)).cell? ⟨w4.heap.size, 1, none⟩ = some (.slice pc Z.ps.length cc) := by go_simp
  have c_c_2 : (w4.alloc (.cells #[.int .i64 Z.k, .slice pc Z.ps.length cc, .slice qc Z.ts.length dc, .int .i64 Z.b, .int .i64 Z.d, .int .i64 Z.n, .int .i64 Z.e, .slice rc Z.ms.length fc, .string Z.s] 28)).cell? ⟨w4.heap.size, 2, none⟩ = some (.slice qc Z.ts.length dc) := by go_simp
  have c_c_3 : (w4.alloc (.cells #[.int .i64 Z.k, .slice pc Z.ps.length cc, .slice qc Z.ts.length dc, .int .i64 Z.b, .int .i64 Z.d, .int .i64 Z.n, .int .i64 Z.e, .slice rc Z.ms.length fc, .string Z.s] 28)).cell? ⟨w4.heap.size, 3, none⟩ = some (.int .i64 Z.b) := by go_simp
  have c_c_4 : (w4.alloc (.cells #[.int .i64 Z.k, .slice pc Z.ps.length cc, .slice qc Z.ts.length dc, .int .i64 Z.b, .int .i64 Z.d, .int .i64 Z.n, .int .i64 Z.e, .slice rc Z.ms.length fc, .string Z.s] 28)).cell? ⟨w4.heap.size, 4, none⟩ = some (.int .i64 Z.d) := by go_simp
  have c_c_5 : (w4.alloc (.cells #[.int .i64 Z.k, .slice pc Z.ps.length cc, .slice qc Z.ts.length dc, .int .i64 Z.b, .int .i64 Z.d, .int .i64 Z.n, .int .i64 Z.e, .slice rc Z.ms.length fc, .string Z.s] 28)).cell? ⟨w4.heap.size, 5, none⟩ = some (.int .i64 Z.n) := by go_simp
  have c_c_6 : (w4.alloc (.cells #[.int .i64 Z.k, .slice pc Z.ps.length cc, .slice qc Z.ts.length dc, .int .i64 Z.b, .int .i64 Z.d, .int .i64 Z.n, .int .i64 Z.e, .slice rc Z.ms.length fc, .string Z.s] 28)).cell? ⟨w4.heap.size, 6, none⟩ = some (.int .i64 Z.e) := by go_simp
  have c_c_7 : (w4.alloc (.cells #[.int .i64 Z.k, .slice pc Z.ps.length cc, .slice qc Z.ts.length dc, .int .i64 Z.b, .int .i64 Z.d, .int .i64 Z.n, .int .i64 Z.e, .slice rc Z.ms.length fc, .string Z.s] 28)).cell? ⟨w4.heap.size, 7, none⟩ = some (.slice rc Z.ms.length fc) := by go_simp
  have c_c_8 : (w4.alloc (.cells #[.int .i64 Z.k, .slice pc Z.ps.length cc, .slice qc Z.ts.length dc, .int .i64 Z.b, .int .i64 Z.d, .int .i64 Z.n, .int .i64 Z.e, .slice rc Z.ms.length fc, .string Z.s] 28)).cell? ⟨w4.heap.size, 8, none⟩ = some (.string Z.s) := by go_simp
  have hB5 := below_two hB4 hs5
  clear hB4 hs5
  have y5_p := z_p
  generalize (w4.alloc (.cells #[.int .i64 Z.k, .slice pc Z.ps.length cc, .slice qc Z.ts.length dc, .int .i64 Z.b, .int .i64 Z.d, .int .i64 Z.n, .int .i64 Z.e, .slice rc Z.ms.length fc, .string Z.s] 28)) = w5 at *
  have z_c : w4.heap.size < _ := World.block_lt_of_cell? _ _ c_c_0
  clear z_p
  have z_p : w.heap.size < _ := World.block_lt_of_cell? _ _ c_p_0
  have hB0' := hB5
  go_loopw [8, 9, 10] (fun a b i wr => AllR1 ys (q0, q1, q2) w5 a b i wr) (fun _ _ i _ => ys.length - (intOf i).toNat)
  case atStart => exact ⟨0, Nat.zero_le _, rfl, rfl, rfl, Below.refl _ _⟩
  case round =>
    obtain ⟨k, hk, rfl, rfl, rfl, hB1⟩ := hrel
    obtain ⟨wa, hwa⟩ : ∃ z, z = wr := ⟨_, rfl⟩
    subst hwa
    obtain ⟨a1, HA1⟩ : ∃ a, Hid (a = thr (flE (ys.take k)) (q0, q1, q2)) := ⟨_, Lib.hid rfl⟩
    obtain ⟨b1', HB1⟩ : ∃ b, Hid (b = Evt.tie (flE (ys.take k)) (q0, q1, q2)) := ⟨_, Lib.hid rfl⟩
    rw [← HA1.out, ← HB1.out]
    by_cases hlt : k < ys.length
    · obtain ⟨y, hy⟩ : ∃ y, ys[k]? = some y := ⟨_, List.getElem?_eq_getElem hlt⟩
      have hyR := HC.out.each y (List.mem_of_getElem? hy)
      obtain ⟨pp1, cc1, pp2, cc2, pp3, cc3, hys⟩ := evs_shape hyR
      have hat := evs_at HC.out hy
      have HY := Lib.hid (flE_take hy)
      have HLT := Lib.hid hy
      clear hy
      generalize y.1 = x at *
      subst hys
      obtain ⟨k0, ps, ts, bb, dd0, nn, ee, ms, str⟩ := x
      obtain ⟨bl, ol, el, -, hc1, hc2, -, -, -, -, -, -⟩ := hat
      subst el
      dsimp only at hyR hc1 hc2
      have HW := Lib.hid (hyR.later (below_two hB5 hB1))
      replace hc1 := cell_later (below_two hB5 hB1) hc1
      replace hc2 := cell_later (below_two hB5 hB1) hc2
      have hlt' : (k : Int) < (ys.length : Int) := by omega
      clear hyR
      go_wp2_with fail
      go_loopw [8, 9, 11] (fun a b j wr => AllR2 ⟨k0, ps, ts, bb, dd0, nn, ee, ms, str⟩ (flE (ys.take k)) (q0, q1, q2) wa a b j wr) (fun _ _ j _ => ps.length - (intOf j).toNat)
      case atStart => exact ⟨0, Nat.zero_le _, by rw [HA1.out]; simp, by rw [HB1.out]; simp, rfl, Below.refl _ _⟩
      case round =>
        obtain ⟨j, hj, rfl, rfl, rfl, hB2⟩ := hrel
        obtain ⟨wb, hwb⟩ : ∃ z, z = wr := ⟨_, rfl⟩
        subst hwb
        dsimp only at hj
        have d1 := cell_later hB2 hc1
        have d2 := cell_later hB2 hc2
        have r0 := cell_later (below_two hB1 hB2) c_p_0
        have r1 := cell_later (below_two hB1 hB2) c_p_1
        have r2 := cell_later (below_two hB1 hB2) c_p_2
        by_cases hjp : j < ps.length
        · by_cases hjt : j < ts.length
          · obtain ⟨x, hxp⟩ : ∃ x, ps[j]? = some x := ⟨_, List.getElem?_eq_getElem hjp⟩
            obtain ⟨t, hxt⟩ : ∃ t, ts[j]? = some t := ⟨_, List.getElem?_eq_getElem hjt⟩
            obtain ⟨x0, x1, x2⟩ := x
            obtain ⟨bx, ox, ex, hx0, hx1, hx2⟩ := pits_at (HW.out.ps.later hB2) hxp
            obtain ⟨bt, ot, et, ht0⟩ := bools_at (HW.out.ts.later hB2) hxt
            subst ex et
            dsimp only at hx0 hx1 hx2
            have HXP := Lib.hid hxp
            have HXT := Lib.hid hxt
            clear hxp hxt
            have hjp' : (j : Int) < (ps.length : Int) := by omega
            have hjt' : (j : Int) < (ts.length : Int) := by omega
            have HJP := Lib.hid hjp
            have lps : ps.length ≤ 140737488355328 := (sl_shape HW.out.ps).choose_spec.choose_spec.2
            obtain ⟨a, HA⟩ : ∃ a, Hid (a = thr (flE (ys.take k) ++ (Evt.pts ⟨k0, ps, ts, bb, dd0, nn, ee, ms, str⟩).take j) (q0, q1, q2)) := ⟨_, Lib.hid rfl⟩
            obtain ⟨b, HB⟩ : ∃ b, Hid (b = Evt.tie (flE (ys.take k) ++ (Evt.pts ⟨k0, ps, ts, bb, dd0, nn, ee, ms, str⟩).take j) (q0, q1, q2)) := ⟨_, Lib.hid rfl⟩
            rw [← HA.out, ← HB.out]
            obtain ⟨e, he⟩ : ∃ e, eqP x0 x1 x2 q0 q1 q2 = e := ⟨_, rfl⟩
            have HST := Lib.hid (all_step (x := ⟨k0, ps, ts, bb, dd0, nn, ee, ms, str⟩) HXP.out HXT.out he HA.out HB.out)
            clear hc1 hc2 c_p_0 c_p_1 c_p_2
            cases a <;> cases b <;> cases e <;> cases t
            all_goals (
              go_wp2_with fail
              have g_d1 := fun dd os => cell_regrown d1 dd os
              have g_d2 := fun dd os => cell_regrown d2 dd os
              have g_r0 := fun dd os => cell_regrown r0 dd os
              have g_r1 := fun dd os => cell_regrown r1 dd os
              have g_r2 := fun dd os => cell_regrown r2 dd os
              have g_hx0 := fun dd os => cell_regrown hx0 dd os
              have g_hx1 := fun dd os => cell_regrown hx1 dd os
              have g_hx2 := fun dd os => cell_regrown hx2 dd os
              have g_ht0 := fun dd os => cell_regrown ht0 dd os
              refine wp_region_quiet_below (by kernel_rfl) (by kernel_rfl) ?_
              repeat (go_big_quiet_step (first | fail))
              refine wpQuiet_nil ?_
              intro _ hw'
              obtain ⟨⟨dq, osq⟩, hw''⟩ := hw'
              subst hw''
              replace d1 := g_d1 dq osq
              clear g_d1
              replace d2 := g_d2 dq osq
              clear g_d2
              replace r0 := g_r0 dq osq
              clear g_r0
              replace r1 := g_r1 dq osq
              clear g_r1
              replace r2 := g_r2 dq osq
              clear g_r2
              replace hx0 := g_hx0 dq osq
              clear g_hx0
              replace hx1 := g_hx1 dq osq
              clear g_hx1
              replace hx2 := g_hx2 dq osq
              clear g_hx2
              replace ht0 := g_ht0 dq osq
              clear g_ht0
              have hb_wq := below_regrown wb dq osq
              generalize Go.Sort.grow (redrawn wb dq) osq = wq at *
              go_wp2_with fail
              have g_d1 := fun dd os => cell_regrown d1 dd os
              have g_d2 := fun dd os => cell_regrown d2 dd os
              have g_r0 := fun dd os => cell_regrown r0 dd os
              have g_r1 := fun dd os => cell_regrown r1 dd os
              have g_r2 := fun dd os => cell_regrown r2 dd os
              have g_hx0 := fun dd os => cell_regrown hx0 dd os
              have g_hx1 := fun dd os => cell_regrown hx1 dd os
              have g_hx2 := fun dd os => cell_regrown hx2 dd os
              have g_ht0 := fun dd os => cell_regrown ht0 dd os
              refine wp_region_quiet_below (by kernel_rfl) (by kernel_rfl) ?_
              repeat (go_big_quiet_step (first | fail))
              refine wpQuiet_nil ?_
              intro _ hw'
              obtain ⟨⟨dq, osq⟩, hw''⟩ := hw'
              subst hw''
              replace d1 := g_d1 dq osq
              clear g_d1
              replace d2 := g_d2 dq osq
              clear g_d2
              replace r0 := g_r0 dq osq
              clear g_r0
              replace r1 := g_r1 dq osq
              clear g_r1
              replace r2 := g_r2 dq osq
              clear g_r2
              replace hx0 := g_hx0 dq osq
              clear g_hx0
              replace hx1 := g_hx1 dq osq
              clear g_hx1
              replace hx2 := g_hx2 dq osq
              clear g_hx2
              replace ht0 := g_ht0 dq osq
              clear g_ht0
              have hb_wz := below_regrown wq dq osq
              generalize Go.Sort.grow (redrawn wq dq) osq = wz at *
              go_wp2
              go_roundw
              case rel => (have h9 := HJP.out; exact ⟨j + 1, h9, by rw [← HST.out.1]; rfl, by rw [← HST.out.2]; rfl, by go_num, below_two (below_two hB2 hb_wq) hb_wz⟩)
              case measure => (have h9 := HJP.out; simp [intOf]; omega))
          · have hjp' : (j : Int) < (ps.length : Int) := by omega
            have hjt' : ¬ (j : Int) < (ts.length : Int) := by omega
            have HE := Lib.hid (pts_min (x := ⟨k0, ps, ts, bb, dd0, nn, ee, ms, str⟩) (j := j) (Or.inr hjt))
            go_wp2
            go_roundw
            case rel => exact ⟨k + 1, by omega, by rw [HY.out, HE.out], by rw [HY.out, HE.out], by go_num, below_two hB1 hB2⟩
            case measure => simp [intOf]; omega
        · have hjp' : ¬ (j : Int) < (ps.length : Int) := by omega
          have HE := Lib.hid (pts_min (x := ⟨k0, ps, ts, bb, dd0, nn, ee, ms, str⟩) (j := j) (Or.inl hjp))
          go_wp2
          go_roundw
          case rel => exact ⟨k + 1, by omega, by rw [HY.out, HE.out], by rw [HY.out, HE.out], by go_num, below_two hB1 hB2⟩
          case measure => simp [intOf]; omega
    · obtain rfl : k = ys.length := by omega
      rw [List.take_length] at HA1 HB1
      obtain rfl : a1 = TA := HA1.out.trans H3.out
      obtain rfl : b1' = TB := HB1.out.trans H4.out
      have HVC := Lib.hid (HVc.out.later (below_two SVc.out hB1))
      have g1 := cell_later hB1 c_c_1
      have g2 := cell_later hB1 c_c_2
      have g0 := cell_later hB1 c_c_0
      have r0 := cell_later hB1 c_p_0
      have r1 := cell_later hB1 c_p_1
      have r2 := cell_later hB1 c_p_2
      have g3 := cell_later hB1 c_c_3
      have g4 := cell_later hB1 c_c_4
      have g5 := cell_later hB1 c_c_5
      have g6 := cell_later hB1 c_c_6
      have g7 := cell_later hB1 c_c_7
      have g8 := cell_later hB1 c_c_8
      have hlen : ((Z.ts.length : Int) != (Z.ps.length : Int)) = false := by have := HL.out; simp; omega
      have hk1 := HK1.out
      have hk2 := HK2.out
      have hk3 := HK3.out
      go_wp2_with fail
      go_loopw [12, 13, 14] (fun a b j wr => AllR2 Z [] (q0, q1, q2) wa a b j wr) (fun _ _ j _ => Z.ps.length - (intOf j).toNat)
      case atStart => exact ⟨0, Nat.zero_le _, rfl, rfl, rfl, Below.refl _ _⟩
      case round =>
        obtain ⟨j, hj, rfl, rfl, rfl, hB2⟩ := hrel
        obtain ⟨wb, hwb⟩ : ∃ z, z = wr := ⟨_, rfl⟩
        subst hwb
        replace r0 := cell_later hB2 r0
        replace r1 := cell_later hB2 r1
        replace r2 := cell_later hB2 r2
        replace g0 := cell_later hB2 g0
        replace g1 := cell_later hB2 g1
        replace g2 := cell_later hB2 g2
        replace g3 := cell_later hB2 g3
        replace g4 := cell_later hB2 g4
        replace g5 := cell_later hB2 g5
        replace g6 := cell_later hB2 g6
        replace g7 := cell_later hB2 g7
        replace g8 := cell_later hB2 g8
        by_cases hjp : j < Z.ps.length
        · have hjt : j < Z.ts.length := by have := HL.out; omega
          obtain ⟨x, hxp⟩ : ∃ x, Z.ps[j]? = some x := ⟨_, List.getElem?_eq_getElem hjp⟩
          obtain ⟨t, hxt⟩ : ∃ t, Z.ts[j]? = some t := ⟨_, List.getElem?_eq_getElem hjt⟩
          obtain ⟨x0, x1, x2⟩ := x
          obtain ⟨bx, ox, ex, hx0, hx1, hx2⟩ := pits_at (HVC.out.ps.later hB2) hxp
          obtain ⟨bt, ot, et, ht0⟩ := bools_at (HVC.out.ts.later hB2) hxt
          subst ex et
          dsimp only at hx0 hx1 hx2
          have HXP := Lib.hid hxp
          have HXT := Lib.hid hxt
          clear hxp hxt hk1 hk2 hk3
          have hjp' : (j : Int) < (Z.ps.length : Int) := by omega
          have hjt' : (j : Int) < (Z.ts.length : Int) := by omega
          have HJP := Lib.hid hjp
          obtain ⟨a, HA⟩ : ∃ a, Hid (a = thr (([] : List PT) ++ (Evt.pts Z).take j) (q0, q1, q2)) := ⟨_, Lib.hid rfl⟩
          obtain ⟨b, HB⟩ : ∃ b, Hid (b = Evt.tie (([] : List PT) ++ (Evt.pts Z).take j) (q0, q1, q2)) := ⟨_, Lib.hid rfl⟩
          rw [← HA.out, ← HB.out]
          obtain ⟨e, he⟩ : ∃ e, eqP x0 x1 x2 q0 q1 q2 = e := ⟨_, rfl⟩
          have HST := Lib.hid (all_step (x := Z) (L0 := []) HXP.out HXT.out he HA.out HB.out)
          clear g0 g3 g4 g5 g6 g7 g8
          cases a <;> cases b <;> cases e <;> cases t
          all_goals (
            go_wp2_with fail
            have g_g1 := fun dd os => cell_regrown g1 dd os
            have g_g2 := fun dd os => cell_regrown g2 dd os
            have g_r0 := fun dd os => cell_regrown r0 dd os
            have g_r1 := fun dd os => cell_regrown r1 dd os
            have g_r2 := fun dd os => cell_regrown r2 dd os
            have g_hx0 := fun dd os => cell_regrown hx0 dd os
            have g_hx1 := fun dd os => cell_regrown hx1 dd os
            have g_hx2 := fun dd os => cell_regrown hx2 dd os
            have g_ht0 := fun dd os => cell_regrown ht0 dd os
            refine wp_region_quiet_below (by kernel_rfl) (by kernel_rfl) ?_
            repeat (go_big_quiet_step (first | fail))
            refine wpQuiet_nil ?_
            intro _ hw'
            obtain ⟨⟨dq, osq⟩, hw''⟩ := hw'
            subst hw''
            replace g1 := g_g1 dq osq
            clear g_g1
            replace g2 := g_g2 dq osq
            clear g_g2
            replace r0 := g_r0 dq osq
            clear g_r0
            replace r1 := g_r1 dq osq
            clear g_r1
            replace r2 := g_r2 dq osq
            clear g_r2
            replace hx0 := g_hx0 dq osq
            clear g_hx0
            replace hx1 := g_hx1 dq osq
            clear g_hx1
            replace hx2 := g_hx2 dq osq
            clear g_hx2
            replace ht0 := g_ht0 dq osq
            clear g_ht0
            have hb_wq := below_regrown wb dq osq
            generalize Go.Sort.grow (redrawn wb dq) osq = wq at *
            go_wp2_with fail
            have g_g1 := fun dd os => cell_regrown g1 dd os
            have g_g2 := fun dd os => cell_regrown g2 dd os
            have g_r0 := fun dd os => cell_regrown r0 dd os
            have g_r1 := fun dd os => cell_regrown r1 dd os
            have g_r2 := fun dd os => cell_regrown r2 dd os
            have g_hx0 := fun dd os => cell_regrown hx0 dd os
            have g_hx1 := fun dd os => cell_regrown hx1 dd os
            have g_hx2 := fun dd os => cell_regrown hx2 dd os
            have g_ht0 := fun dd os => cell_regrown ht0 dd os
            refine wp_region_quiet_below (by kernel_rfl) (by kernel_rfl) ?_
            repeat (go_big_quiet_step (first | fail))
            refine wpQuiet_nil ?_
            intro _ hw'
            obtain ⟨⟨dq, osq⟩, hw''⟩ := hw'
            subst hw''
            replace g1 := g_g1 dq osq
            clear g_g1
            replace g2 := g_g2 dq osq
            clear g_g2
            replace r0 := g_r0 dq osq
            clear g_r0
            replace r1 := g_r1 dq osq
            clear g_r1
            replace r2 := g_r2 dq osq
            clear g_r2
            replace hx0 := g_hx0 dq osq
            clear g_hx0
            replace hx1 := g_hx1 dq osq
            clear g_hx1
            replace hx2 := g_hx2 dq osq
            clear g_hx2
            replace ht0 := g_ht0 dq osq
            clear g_ht0
            have hb_wz := below_regrown wq dq osq
            generalize Go.Sort.grow (redrawn wq dq) osq = wz at *
            go_wp2
            go_roundw
            case rel => (have h9 := HJP.out; exact ⟨j + 1, h9, by rw [← HST.out.1]; rfl, by rw [← HST.out.2]; rfl, by go_num, below_two (below_two hB2 hb_wq) hb_wz⟩)
            case measure => (have h9 := HJP.out; simp [intOf]; omega))
        · have hjp' : ¬ (j : Int) < (Z.ps.length : Int) := by omega
          obtain ⟨a2, HA2⟩ : ∃ a, Hid (a = thr ([] ++ (Evt.pts Z).take j) (q0, q1, q2)) := ⟨_, Lib.hid rfl⟩
          obtain ⟨b2, HB2⟩ : ∃ b, Hid (b = Evt.tie ([] ++ (Evt.pts Z).take j) (q0, q1, q2)) := ⟨_, Lib.hid rfl⟩
          rw [← HA2.out, ← HB2.out]
          rw [pts_min (Or.inl hjp), List.nil_append] at HA2 HB2
          obtain rfl : a2 = a1 := HA2.out.trans H1.out
          obtain rfl : b2 = b1' := HB2.out.trans H2.out
          go_wp2_with fail
          refine (eright_is HZ.out _ _ _ _ (HVC.out.later hB2) (hR.below (below_two (below_two hB5 hB1) hB2))).mono ?_
          rintro e wx ⟨rfl, hbx⟩
          go_wp2
          go_ret
          exact ⟨rfl, below_two (below_two (below_two hB5 hB1) hB2) hbx⟩

theorem chordAll_any (v : Value) (ys : List EM) (q0 q1 q2 : Int) (w : World) (h : Evs w v ys) (hR : Ready w) : Calls Tryd.prog 11 #[v, pt q0 q1 q2] w fun ed w' => ed = .returned (.bool true) ∧ Below w.heap.size w w' := by
  cases hq : fewL (ys.map Prod.fst)
  · exact chordAll_few v ys q0 q1 q2 w h hR hq
  have h6 : ys.length ≤ 6 := by
    unfold fewL at hq
    rw [Bool.and_eq_true, decide_eq_true_iff, List.length_map] at hq
    exact hq.1
  obtain ⟨Z, er, hc⟩ : ∃ Z er, Evt.chordE (ys.map Prod.fst) = (Z, er) := ⟨_, _, rfl⟩
  by_cases h0 : er = 0
  · subst h0
    obtain ⟨hz, h1, h2⟩ := chordAll_told hc (q0, q1, q2)
    have hk : (decide ((0 : Int) < (Z.ps.length : Int)) = (Z.k == 1)) ∧ (decide (0 < Z.ps.length) = (Z.k == 1)) := by
      rcases hz.kind with ⟨k0, hp, _⟩ | ⟨k1, hp, _⟩
      · rw [k0, hp]; exact ⟨rfl, rfl⟩
      · rw [k1]; exact ⟨decide_eq_true (by omega), decide_eq_true (by omega)⟩
    exact chordAll_ok v ys q0 q1 q2 Z _ _ _ w h hR hq hc h6 ((Evt.right_iff _).2 hz) hz.len rfl rfl h1.symm h2.symm hk.1 hk.2 rfl
  · have hz : Z = Evt.zero := chordE_zero hc h0
    subst hz
    exact chordAll_bad v ys q0 q1 q2 er w h hR hq hc (beq_eq_false_iff_ne.2 h0) h6
end Go.Proofs.YtoiankbopjaamaaDoor
