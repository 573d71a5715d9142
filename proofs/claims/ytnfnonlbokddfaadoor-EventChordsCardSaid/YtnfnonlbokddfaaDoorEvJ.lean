/-
  Lists of events; the contracts of event.every over events, together.
-/
import Derived.Test.YtnfnonlbokddfaaDoorEvI
namespace Go.Proofs.YtnfnonlbokddfaaDoor
open Go.RowKit

open Evt (P3 Ev)
/-- An event and its lists' values. -/
abbrev EM := Ev × Value × Value × Value
def encE (y : EM) : List Value := [.int .i64 y.1.k, y.2.1, y.2.2.1, .int .i64 y.1.b, .int .i64 y.1.d, .int .i64 y.1.n, .int .i64 y.1.e, y.2.2.2, .string y.1.s]
/-- A list of events in memory. -/
structure Evs (W : World) (v : Value) (l : List EM) : Prop where
  row : Sl 9 encE W v l
  each : ∀ y ∈ l, EvR W y.2.1 y.2.2.1 y.2.2.2 y.1
theorem Evs.later {W W' : World} {v : Value} {l : List EM} (h : Evs W v l) (hb : Below W.heap.size W W') : Evs W' v l := ⟨h.row.later hb, fun y hy => (h.each y hy).later hb⟩
theorem evs_at {W : World} {p : Option Addr} {n c : Nat} {l : List EM} (h : Evs W (.slice p n c) l) {i : Nat} {y : EM} (hy : l[i]? = some y) : ∃ b o, p = some ⟨b, o, .none⟩ ∧ W.cell? ⟨b, o + i * 9, none⟩ = some (.int .i64 y.1.k) ∧ W.cell? ⟨b, o + i * 9 + 1, none⟩ = some y.2.1 ∧ W.cell? ⟨b, o + i * 9 + 2, none⟩ = some y.2.2.1 ∧ W.cell? ⟨b, o + i * 9 + 3, none⟩ = some (.int .i64 y.1.b) ∧ W.cell? ⟨b, o + i * 9 + 4, none⟩ = some (.int .i64 y.1.d) ∧ W.cell? ⟨b, o + i * 9 + 5, none⟩ = some (.int .i64 y.1.n) ∧ W.cell? ⟨b, o + i * 9 + 6, none⟩ = some (.int .i64 y.1.e) ∧ W.cell? ⟨b, o + i * 9 + 7, none⟩ = some y.2.2.2 ∧ W.cell? ⟨b, o + i * 9 + 8, none⟩ = some (.string y.1.s) := by
  obtain ⟨p', c', e, _, _, hc⟩ := h.row
  cases e
  obtain ⟨b, o, e, hc⟩ := hc i y hy
  exact ⟨b, o, e, hc 0 _ rfl, hc 1 _ rfl, hc 2 _ rfl, hc 3 _ rfl, hc 4 _ rfl, hc 5 _ rfl, hc 6 _ rfl, hc 7 _ rfl, hc 8 _ rfl⟩
theorem evs_shape {W : World} {y : EM} (h : EvR W y.2.1 y.2.2.1 y.2.2.2 y.1) : ∃ p1 c1 p2 c2 p3 c3, y = (y.1, .slice p1 y.1.ps.length c1, .slice p2 y.1.ts.length c2, .slice p3 y.1.ms.length c3) := by
  obtain ⟨x, vp, vt, vm⟩ := y
  dsimp only at *
  obtain ⟨p1, c1, rfl, _⟩ := sl_shape h.ps
  obtain ⟨p2, c2, rfl, _⟩ := sl_shape h.ts
  obtain ⟨p3, c3, rfl, _⟩ := sl_shape h.ms
  exact ⟨p1, c1, p2, c2, p3, c3, rfl⟩

def AllE (f : EM → Bool) (ys : List EM) (w : World) (i : Value) (wr : World) : Prop := ∃ k : Nat, k ≤ ys.length ∧ i = .int .i64 (k : Int) ∧ (ys.take k).all f = true ∧ Below w.heap.size w wr

set_option maxRecDepth 100000 in
set_option maxHeartbeats 4000000 in
theorem everyE_right (v : Value) (ys : List EM) (w : World) (h : Evs w v ys) (hR : Ready w) :
    Calls Tryd.prog 87 #[v, .func (.func 33) #[] #[]] w fun ed w' => ed = .returned (.bool (ys.all (fun y => Evt.right y.1))) ∧ Below w.heap.size w w' := by
  have HC := Lib.hid h
  obtain ⟨p0, c0, rfl, hl1⟩ := sl_shape h.row
  clear h
  go_enter Tryd.func87, Tryd.ntmps87
  go_wp2
  go_loopw [9] (fun i wr => AllE (fun y => Evt.right y.1) ys w i wr) (fun i _ => ys.length - (intOf i).toNat)
  case atStart => exact ⟨0, Nat.zero_le _, rfl, rfl, Below.refl _ _⟩
  case round =>
    obtain ⟨k, hk, rfl, he, hB⟩ := hrel
    have HE := Lib.hid he
    clear he
    by_cases hlt : k < ys.length
    · obtain ⟨y, hy⟩ : ∃ y, ys[k]? = some y := ⟨_, List.getElem?_eq_getElem hlt⟩
      have hyR := HC.out.each y (List.mem_of_getElem? hy)
      obtain ⟨p1, c1, p2, c2, p3, c3, hys⟩ := evs_shape hyR
      have hat := evs_at HC.out hy
      generalize y.1 = x at *
      subst hys
      obtain ⟨k0, ps, ts, b, d, n, e0, ms, str⟩ := x
      obtain ⟨b1, o1, e1, hc0, hc1, hc2, hc3, hc4, hc5, hc6, hc7, hc8⟩ := hat
      subst e1
      dsimp only at hyR hc0 hc1 hc2 hc3 hc4 hc5 hc6 hc7 hc8
      have hsz := hyR.sz
      replace hc0 := cell_later hB hc0
      replace hc1 := cell_later hB hc1
      replace hc2 := cell_later hB hc2
      replace hc3 := cell_later hB hc3
      replace hc4 := cell_later hB hc4
      replace hc5 := cell_later hB hc5
      replace hc6 := cell_later hB hc6
      replace hc7 := cell_later hB hc7
      replace hc8 := cell_later hB hc8
      have HER : Hid (EvR wr (.slice p1 ps.length c1) (.slice p2 ts.length c2) (.slice p3 ms.length c3) ⟨k0, ps, ts, b, d, n, e0, ms, str⟩) := Lib.hid (hyR.later hB)
      have HY := Lib.hid hy
      have hlt' : (k : Int) < (ys.length : Int) := by omega
      clear hy hyR
      obtain ⟨q, hq⟩ : ∃ q, (fun y => Evt.right y.1) (((⟨k0, ps, ts, b, d, n, e0, ms, str⟩ : Ev), Value.slice p1 ps.length c1, Value.slice p2 ts.length c2, Value.slice p3 ms.length c3) : EM) = q := ⟨_, rfl⟩
      have HF := Lib.hid hq
      clear hq
      have hR' := (hR.below hB).alloc (.cells #[.int .i64 k0, .slice p1 ps.length c1, .slice p2 ts.length c2, .int .i64 b, .int .i64 d, .int .i64 n, .int .i64 e0, .slice p3 ms.length c3, .string str] 28)

      cases q
      · go_wp2_with fail
        refine (eright_is (x := (⟨k0, ps, ts, b, d, n, e0, ms, str⟩ : Ev)) HF.out _ _ _ _ (HER.out.later ((Below.refl _ _).alloc (Nat.le_refl _) _)) hR').mono ?_
        rintro e w5 ⟨rfl, hb5⟩
        go_wp2
        go_ret
        exact ⟨ret_bool (Evt.all_not HY.out HF.out).symm, below_two (alloc_below hB) hb5⟩
      · go_wp2_with fail
        refine (eright_is (x := (⟨k0, ps, ts, b, d, n, e0, ms, str⟩ : Ev)) HF.out _ _ _ _ (HER.out.later ((Below.refl _ _).alloc (Nat.le_refl _) _)) hR').mono ?_
        rintro e w5 ⟨rfl, hb5⟩
        go_wp2
        go_roundw
        case rel => exact ⟨k + 1, by omega, by go_num, Evt.all_take HY.out HE.out HF.out, below_two (alloc_below hB) hb5⟩
        case measure => simp [intOf]; omega
    · obtain rfl : k = ys.length := by omega
      go_wp2
      go_ret
      exact ⟨ret_bool (by have := HE.out; rw [List.take_length] at this; exact this.symm), hB⟩

set_option maxRecDepth 100000 in
set_option maxHeartbeats 4000000 in
theorem closure_any (x : Ev) (vp vt vm : Value) (w : World) (h : EvR w vp vt vm x) (B : Nat) (b1 d1 n1 e1 : Int) (h0 : w.cell? ⟨B, 0, none⟩ = some (.int .i64 b1)) (h1 : w.cell? ⟨B, 1, none⟩ = some (.int .i64 d1)) (h2 : w.cell? ⟨B, 2, none⟩ = some (.int .i64 n1)) (h3 : w.cell? ⟨B, 3, none⟩ = some (.int .i64 e1)) :
    Calls Tryd.prog 88 #[evv x vp vt vm, .pointer (some ⟨B, 0, none⟩)] w fun ed w' => ed = .returned (.bool (eqV x.b x.d x.n x.e b1 d1 n1 e1)) ∧ Below w.heap.size w w' := by
  obtain ⟨k, ps, ts, b, d, n, e0, ms, str⟩ := x
  obtain ⟨hps, hts, hms, hsz⟩ := h
  dsimp only at hps hts hms hsz ⊢
  have Hps := Lib.hid hps
  obtain ⟨pps, cps, rfl, lps⟩ := sl_shape hps
  have Hts := Lib.hid hts
  obtain ⟨pts, cts, rfl, lts⟩ := sl_shape hts
  have Hms := Lib.hid hms
  obtain ⟨pms, cms, rfl, lms⟩ := sl_shape hms
  clear hps hts hms
  have zB := World.block_lt_of_cell? _ _ h0
  have hgV := guardV
  have heV := eql_vl
  go_enter Tryd.func88, Tryd.ntmps88
  go_wp2
  go_ret
  exact ⟨rfl, (Below.refl _ _).alloc (Nat.le_refl _) _⟩
theorem closure_is {x : Ev} {q : Bool} {b1 d1 n1 e1 : Int} (hq : eqV x.b x.d x.n x.e b1 d1 n1 e1 = q) (vp vt vm : Value) (w : World) (h : EvR w vp vt vm x) {B : Nat} (h0 : w.cell? ⟨B, 0, none⟩ = some (.int .i64 b1)) (h1 : w.cell? ⟨B, 1, none⟩ = some (.int .i64 d1)) (h2 : w.cell? ⟨B, 2, none⟩ = some (.int .i64 n1)) (h3 : w.cell? ⟨B, 3, none⟩ = some (.int .i64 e1)) :
    Calls Tryd.prog 88 #[evv x vp vt vm, .pointer (some ⟨B, 0, none⟩)] w fun ed w' => ed = .returned (.bool q) ∧ Below w.heap.size w w' := by subst hq; exact closure_any x vp vt vm w h B b1 d1 n1 e1 h0 h1 h2 h3

set_option maxRecDepth 100000 in
set_option maxHeartbeats 4000000 in
theorem everyE_same (v : Value) (ys : List EM) (w : World) (h : Evs w v ys) (B : Nat) (bv dv nv ev : Int) (g0 : w.cell? ⟨B, 0, none⟩ = some (.int .i64 bv)) (g1 : w.cell? ⟨B, 1, none⟩ = some (.int .i64 dv)) (g2 : w.cell? ⟨B, 2, none⟩ = some (.int .i64 nv)) (g3 : w.cell? ⟨B, 3, none⟩ = some (.int .i64 ev)) :
    Calls Tryd.prog 87 #[v, .func (.func 88) #[] #[.pointer (some ⟨B, 0, none⟩)]] w fun ed w' => ed = .returned (.bool (ys.all (fun y => eqV y.1.b y.1.d y.1.n y.1.e bv dv nv ev))) ∧ Below w.heap.size w w' := by
  have HC := Lib.hid h
  obtain ⟨p0, c0, rfl, hl1⟩ := sl_shape h.row
  clear h
  go_enter Tryd.func87, Tryd.ntmps87
  go_wp2
  go_loopw [9] (fun i wr => AllE (fun y => eqV y.1.b y.1.d y.1.n y.1.e bv dv nv ev) ys w i wr) (fun i _ => ys.length - (intOf i).toNat)
  case atStart => exact ⟨0, Nat.zero_le _, rfl, rfl, Below.refl _ _⟩
  case round =>
    obtain ⟨k, hk, rfl, he, hB⟩ := hrel
    have HE := Lib.hid he
    clear he
    by_cases hlt : k < ys.length
    · obtain ⟨y, hy⟩ : ∃ y, ys[k]? = some y := ⟨_, List.getElem?_eq_getElem hlt⟩
      have hyR := HC.out.each y (List.mem_of_getElem? hy)
      obtain ⟨p1, c1, p2, c2, p3, c3, hys⟩ := evs_shape hyR
      have hat := evs_at HC.out hy
      generalize y.1 = x at *
      subst hys
      obtain ⟨k0, ps, ts, b, d, n, e0, ms, str⟩ := x
      obtain ⟨b1, o1, e1, hc0, hc1, hc2, hc3, hc4, hc5, hc6, hc7, hc8⟩ := hat
      subst e1
      dsimp only at hyR hc0 hc1 hc2 hc3 hc4 hc5 hc6 hc7 hc8
      have hsz := hyR.sz
      replace hc0 := cell_later hB hc0
      replace hc1 := cell_later hB hc1
      replace hc2 := cell_later hB hc2
      replace hc3 := cell_later hB hc3
      replace hc4 := cell_later hB hc4
      replace hc5 := cell_later hB hc5
      replace hc6 := cell_later hB hc6
      replace hc7 := cell_later hB hc7
      replace hc8 := cell_later hB hc8
      have HER : Hid (EvR wr (.slice p1 ps.length c1) (.slice p2 ts.length c2) (.slice p3 ms.length c3) ⟨k0, ps, ts, b, d, n, e0, ms, str⟩) := Lib.hid (hyR.later hB)
      have HY := Lib.hid hy
      have hlt' : (k : Int) < (ys.length : Int) := by omega
      clear hy hyR
      obtain ⟨q, hq⟩ : ∃ q, (fun y => eqV y.1.b y.1.d y.1.n y.1.e bv dv nv ev) (((⟨k0, ps, ts, b, d, n, e0, ms, str⟩ : Ev), Value.slice p1 ps.length c1, Value.slice p2 ts.length c2, Value.slice p3 ms.length c3) : EM) = q := ⟨_, rfl⟩
      have HF := Lib.hid hq
      clear hq
      have q0 := alloc_cell (o := (.cells #[.int .i64 k0, .slice p1 ps.length c1, .slice p2 ts.length c2, .int .i64 b, .int .i64 d, .int .i64 n, .int .i64 e0, .slice p3 ms.length c3, .string str] 28)) (cell_later hB g0)
      have q1 := alloc_cell (o := (.cells #[.int .i64 k0, .slice p1 ps.length c1, .slice p2 ts.length c2, .int .i64 b, .int .i64 d, .int .i64 n, .int .i64 e0, .slice p3 ms.length c3, .string str] 28)) (cell_later hB g1)
      have q2 := alloc_cell (o := (.cells #[.int .i64 k0, .slice p1 ps.length c1, .slice p2 ts.length c2, .int .i64 b, .int .i64 d, .int .i64 n, .int .i64 e0, .slice p3 ms.length c3, .string str] 28)) (cell_later hB g2)
      have q3 := alloc_cell (o := (.cells #[.int .i64 k0, .slice p1 ps.length c1, .slice p2 ts.length c2, .int .i64 b, .int .i64 d, .int .i64 n, .int .i64 e0, .slice p3 ms.length c3, .string str] 28)) (cell_later hB g3)
      cases q
      · go_wp2_with fail
        refine (closure_is (x := (⟨k0, ps, ts, b, d, n, e0, ms, str⟩ : Ev)) HF.out _ _ _ _ (HER.out.later ((Below.refl _ _).alloc (Nat.le_refl _) _)) q0 q1 q2 q3).mono ?_
        rintro e w5 ⟨rfl, hb5⟩
        go_wp2
        go_ret
        exact ⟨ret_bool (Evt.all_not HY.out HF.out).symm, below_two (alloc_below hB) hb5⟩
      · go_wp2_with fail
        refine (closure_is (x := (⟨k0, ps, ts, b, d, n, e0, ms, str⟩ : Ev)) HF.out _ _ _ _ (HER.out.later ((Below.refl _ _).alloc (Nat.le_refl _) _)) q0 q1 q2 q3).mono ?_
        rintro e w5 ⟨rfl, hb5⟩
        go_wp2
        go_roundw
        case rel => exact ⟨k + 1, by omega, by go_num, Evt.all_take HY.out HE.out HF.out, below_two (alloc_below hB) hb5⟩
        case measure => simp [intOf]; omega
    · obtain rfl : k = ys.length := by omega
      go_wp2
      go_ret
      exact ⟨ret_bool (by have := HE.out; rw [List.take_length] at this; exact this.symm), hB⟩
end Go.Proofs.YtnfnonlbokddfaaDoor
