/-
  Lists in memory; the contracts of event's within, isMark, isFermata, alike, every and rising at numbers, marksRight.
-/
import Derived.Test.YtobhmiknlbjmkaaDoorEvVal
import Derived.Test.YtobhmiknlbjmkaaDoorEvMath
namespace Go.Proofs.YtobhmiknlbjmkaaDoor
open Go.RowKit

open Evt (P3 Ev)
/-- A list in memory, k cells an item. -/
def Sl {α : Type} (k : Nat) (enc : α → List Value) (W : World) (v : Value) (l : List α) : Prop :=
  ∃ p cap, v = .slice p l.length cap ∧ l.length ≤ 140737488355328 ∧ l.length ≤ cap ∧ ∀ (i : Nat) (x : α), l[i]? = some x → ∃ b o, p = some ⟨b, o, none⟩ ∧ ∀ (j : Nat) (u : Value), (enc x)[j]? = some u → W.cell? ⟨b, o + i * k + j, none⟩ = some u
theorem Sl.later {α : Type} {k : Nat} {enc : α → List Value} {W W' : World} {v : Value} {l : List α} (h : Sl k enc W v l) (hb : Below W.heap.size W W') : Sl k enc W' v l := by
  obtain ⟨p, cap, rfl, hl, hc, hx⟩ := h
  exact ⟨p, cap, rfl, hl, hc, fun i x hi => let ⟨b, o, e, c⟩ := hx i x hi; ⟨b, o, e, fun j u hu => cell_later hb (c j u hu)⟩⟩
theorem Sl.none {α : Type} (k : Nat) (enc : α → List Value) (W : World) : Sl k enc W (.slice none 0 0) [] := ⟨_, 0, rfl, by simp, by simp, fun i x hx => by simp at hx⟩
def encI (z : Int) : List Value := [.int .i64 z]
def encB (z : Bool) : List Value := [.bool z]
def encP (z : P3) : List Value := [.int .i64 z.1, .int .i64 z.2.1, .int .i64 z.2.2]
abbrev Ints := Sl 1 encI
abbrev Bools := Sl 1 encB
abbrev Pits := Sl 3 encP
theorem ints_at {W : World} {p : Option Addr} {n c : Nat} {l : List Int} (h : Ints W (.slice p n c) l) {i : Nat} {x : Int} (hx : l[i]? = some x) : ∃ b o, p = some ⟨b, o, .none⟩ ∧ W.cell? ⟨b, o + i, .none⟩ = some (.int .i64 x) := by
  obtain ⟨p', c', e, _, _, hc⟩ := h
  cases e
  obtain ⟨b, o, e, hc⟩ := hc i x hx
  have := hc 0 (.int .i64 x) rfl
  rw [Nat.mul_one, Nat.add_zero] at this
  exact ⟨b, o, e, this⟩
theorem bools_at {W : World} {p : Option Addr} {n c : Nat} {l : List Bool} (h : Bools W (.slice p n c) l) {i : Nat} {x : Bool} (hx : l[i]? = some x) : ∃ b o, p = some ⟨b, o, .none⟩ ∧ W.cell? ⟨b, o + i, .none⟩ = some (.bool x) := by
  obtain ⟨p', c', e, _, _, hc⟩ := h
  cases e
  obtain ⟨b, o, e, hc⟩ := hc i x hx
  have := hc 0 (.bool x) rfl
  rw [Nat.mul_one, Nat.add_zero] at this
  exact ⟨b, o, e, this⟩
theorem pits_at {W : World} {p : Option Addr} {n c : Nat} {l : List P3} (h : Pits W (.slice p n c) l) {i : Nat} {x : P3} (hx : l[i]? = some x) : ∃ b o, p = some ⟨b, o, .none⟩ ∧ W.cell? ⟨b, o + i * 3, .none⟩ = some (.int .i64 x.1) ∧ W.cell? ⟨b, o + i * 3 + 1, .none⟩ = some (.int .i64 x.2.1) ∧ W.cell? ⟨b, o + i * 3 + 2, .none⟩ = some (.int .i64 x.2.2) := by
  obtain ⟨p', c', e, _, _, hc⟩ := h
  cases e
  obtain ⟨b, o, e, hc⟩ := hc i x hx
  exact ⟨b, o, e, hc 0 _ rfl, hc 1 _ rfl, hc 2 _ rfl⟩
theorem take_succ_at {α : Type} {l : List α} {k : Nat} {x : α} (h : l[k]? = some x) : l.take (k + 1) = l.take k ++ [x] := by
  obtain ⟨hk, rfl⟩ := List.getElem?_eq_some_iff.1 h
  exact List.take_succ_eq_append_getElem hk
theorem take_eq {α : Type} {xs ys : List α} {k : Nat} {x y : α} (hx : xs[k]? = some x) (hy : ys[k]? = some y) (h : xs.take k = ys.take k) (e : x = y) : xs.take (k + 1) = ys.take (k + 1) := by
  rw [take_succ_at hx, take_succ_at hy, h, e]
theorem ne_at {α : Type} {xs ys : List α} {k : Nat} {x y : α} (hx : xs[k]? = some x) (hy : ys[k]? = some y) (e : x ≠ y) : xs ≠ ys := by
  rintro rfl; rw [hx] at hy; exact e (Option.some.inj hy)
theorem eq_all {α : Type} {xs ys : List α} (hl : xs.length = ys.length) (h : xs.take xs.length = ys.take xs.length) : xs = ys := by
  rw [List.take_length, hl, List.take_length] at h; exact h
def EqRel {α : Type} (xs ys : List α) (w : World) (i : Value) (wr : World) : Prop := ∃ k : Nat, k ≤ xs.length ∧ i = .int .i64 (k : Int) ∧ xs.take k = ys.take k ∧ Below w.heap.size w wr

set_option maxRecDepth 100000 in
set_option maxHeartbeats 4000000 in
theorem alikeI_ne (v u : Value) (xs ys : List Int) (w : World) (h1 : Ints w v xs) (h2 : Ints w u ys) (hl : xs.length ≠ ys.length) :
    Calls Tryd.prog 77 #[v, u] w fun ed w' => ed = .returned (.bool false) ∧ Below w.heap.size w w' := by
  obtain ⟨p1, cap1, rfl, hl1, _, hc1⟩ := h1
  obtain ⟨p2, cap2, rfl, hl2, _, hc2⟩ := h2
  have hne : ((xs.length : Int) != (ys.length : Int)) = true := by simp; omega
  clear hc1 hc2
  go_enter Tryd.func77, Tryd.ntmps77
  go_wp2
  go_ret
  exact ⟨rfl, Below.refl _ _⟩

set_option maxRecDepth 100000 in
set_option maxHeartbeats 4000000 in
theorem alikeI_any (v u : Value) (xs ys : List Int) (w : World) (h1 : Ints w v xs) (h2 : Ints w u ys) :
    Calls Tryd.prog 77 #[v, u] w fun ed w' => ed = .returned (.bool (decide (xs = ys))) ∧ Below w.heap.size w w' := by
  by_cases hl : xs.length = ys.length
  case neg => rw [decide_eq_false (fun e => hl (by rw [e]))]; exact alikeI_ne v u xs ys w h1 h2 hl
  case pos =>
  have h1' := h1
  have h2' := h2
  obtain ⟨p1, cap1, rfl, hl1, _, _⟩ := h1
  obtain ⟨p2, cap2, rfl, hl2, _, _⟩ := h2
  have HC1 := Lib.hid h1'
  have HC2 := Lib.hid h2'
  have HL := Lib.hid hl
  rw [← hl]
  have hne : ((xs.length : Int) != (xs.length : Int)) = false := by simp
  clear hl hl2 h1' h2'
  go_enter Tryd.func77, Tryd.ntmps77
  go_wp2
  go_loopw [13] (fun i wr => EqRel xs ys w i wr) (fun i _ => xs.length - (intOf i).toNat)
  case atStart => exact ⟨0, Nat.zero_le _, rfl, rfl, Below.refl _ _⟩
  case round =>
    obtain ⟨k, hk, rfl, he, hB⟩ := hrel
    have HE := Lib.hid he
    clear he
    by_cases hlt : k < xs.length
    · obtain ⟨x, hx⟩ : ∃ x, xs[k]? = some x := ⟨_, List.getElem?_eq_getElem hlt⟩
      obtain ⟨y, hy⟩ : ∃ y, ys[k]? = some y := ⟨_, List.getElem?_eq_getElem (by have := HL.out; omega)⟩
      obtain ⟨b1, o1, e1, hcx⟩ := ints_at HC1.out hx
      obtain ⟨b2, o2, e2, hcy⟩ := ints_at HC2.out hy
      subst e1 e2
      have hcx := cell_later hB hcx
      have hcy := cell_later hB hcy
      have HX := Lib.hid hx
      have HY := Lib.hid hy
      have hlt' : (k : Int) < (xs.length : Int) := by omega
      clear hx hy
      go_wp2_with fail
      go_quiet (fail)
      go_wp2
      · have hxy : x ≠ y := by have : (x != y) = true := by assumption
                               simpa using this
        go_ret
        exact ⟨ret_bool (decide_eq_false (ne_at HX.out HY.out hxy)).symm, below_drewN hB _⟩
      · have hxy : x = y := by have : (x != y) = false := by assumption
                               simpa using this
        go_roundw
        case rel => exact ⟨k + 1, by omega, by go_num, take_eq HX.out HY.out HE.out hxy, below_drewN hB _⟩
        case measure => simp [intOf]; omega
    · obtain rfl : k = xs.length := by omega
      go_wp2
      go_ret
      exact ⟨ret_bool (decide_eq_true (eq_all HL.out HE.out)).symm, hB⟩

set_option maxRecDepth 100000 in
set_option maxHeartbeats 4000000 in
theorem alikeB_ne (v u : Value) (xs ys : List Bool) (w : World) (h1 : Bools w v xs) (h2 : Bools w u ys) (hl : xs.length ≠ ys.length) :
    Calls Tryd.prog 76 #[v, u] w fun ed w' => ed = .returned (.bool false) ∧ Below w.heap.size w w' := by
  obtain ⟨p1, cap1, rfl, hl1, _, hc1⟩ := h1
  obtain ⟨p2, cap2, rfl, hl2, _, hc2⟩ := h2
  have hne : ((xs.length : Int) != (ys.length : Int)) = true := by simp; omega
  clear hc1 hc2
  go_enter Tryd.func76, Tryd.ntmps76
  go_wp2
  go_ret
  exact ⟨rfl, Below.refl _ _⟩

set_option maxRecDepth 100000 in
set_option maxHeartbeats 4000000 in
theorem alikeB_any (v u : Value) (xs ys : List Bool) (w : World) (h1 : Bools w v xs) (h2 : Bools w u ys) :
    Calls Tryd.prog 76 #[v, u] w fun ed w' => ed = .returned (.bool (decide (xs = ys))) ∧ Below w.heap.size w w' := by
  by_cases hl : xs.length = ys.length
  case neg => rw [decide_eq_false (fun e => hl (by rw [e]))]; exact alikeB_ne v u xs ys w h1 h2 hl
  case pos =>
  have h1' := h1
  have h2' := h2
  obtain ⟨p1, cap1, rfl, hl1, _, _⟩ := h1
  obtain ⟨p2, cap2, rfl, hl2, _, _⟩ := h2
  have HC1 := Lib.hid h1'
  have HC2 := Lib.hid h2'
  have HL := Lib.hid hl
  rw [← hl]
  have hne : ((xs.length : Int) != (xs.length : Int)) = false := by simp
  clear hl hl2 h1' h2'
  go_enter Tryd.func76, Tryd.ntmps76
  go_wp2
  go_loopw [13] (fun i wr => EqRel xs ys w i wr) (fun i _ => xs.length - (intOf i).toNat)
  case atStart => exact ⟨0, Nat.zero_le _, rfl, rfl, Below.refl _ _⟩
  case round =>
    obtain ⟨k, hk, rfl, he, hB⟩ := hrel
    have HE := Lib.hid he
    clear he
    by_cases hlt : k < xs.length
    · obtain ⟨x, hx⟩ : ∃ x, xs[k]? = some x := ⟨_, List.getElem?_eq_getElem hlt⟩
      obtain ⟨y, hy⟩ : ∃ y, ys[k]? = some y := ⟨_, List.getElem?_eq_getElem (by have := HL.out; omega)⟩
      obtain ⟨b1, o1, e1, hcx⟩ := bools_at HC1.out hx
      obtain ⟨b2, o2, e2, hcy⟩ := bools_at HC2.out hy
      subst e1 e2
      have hcx := cell_later hB hcx
      have hcy := cell_later hB hcy
      have HX := Lib.hid hx
      have HY := Lib.hid hy
      have hlt' : (k : Int) < (xs.length : Int) := by omega
      clear hx hy
      go_wp2_with fail
      go_quiet (fail)
      go_wp2
      · have hxy : x ≠ y := by have : (x != y) = true := by assumption
                               simpa using this
        go_ret
        exact ⟨ret_bool (decide_eq_false (ne_at HX.out HY.out hxy)).symm, below_drewN hB _⟩
      · have hxy : x = y := by have : (x != y) = false := by assumption
                               simpa using this
        go_roundw
        case rel => exact ⟨k + 1, by omega, by go_num, take_eq HX.out HY.out HE.out hxy, below_drewN hB _⟩
        case measure => simp [intOf]; omega
    · obtain rfl : k = xs.length := by omega
      go_wp2
      go_ret
      exact ⟨ret_bool (decide_eq_true (eq_all HL.out HE.out)).symm, hB⟩

set_option maxRecDepth 100000 in
set_option maxHeartbeats 4000000 in
theorem alikeP_ne (v u : Value) (xs ys : List P3) (w : World) (h1 : Pits w v xs) (h2 : Pits w u ys) (hl : xs.length ≠ ys.length) :
    Calls Tryd.prog 75 #[v, u] w fun ed w' => ed = .returned (.bool false) ∧ Below w.heap.size w w' := by
  obtain ⟨p1, cap1, rfl, hl1, _, hc1⟩ := h1
  obtain ⟨p2, cap2, rfl, hl2, _, hc2⟩ := h2
  have hne : ((xs.length : Int) != (ys.length : Int)) = true := by simp; omega
  clear hc1 hc2
  go_enter Tryd.func75, Tryd.ntmps75
  go_wp2
  go_ret
  exact ⟨rfl, Below.refl _ _⟩

set_option maxRecDepth 100000 in
set_option maxHeartbeats 4000000 in
theorem alikeP_any (v u : Value) (xs ys : List P3) (w : World) (h1 : Pits w v xs) (h2 : Pits w u ys) :
    Calls Tryd.prog 75 #[v, u] w fun ed w' => ed = .returned (.bool (decide (xs = ys))) ∧ Below w.heap.size w w' := by
  by_cases hl : xs.length = ys.length
  case neg => rw [decide_eq_false (fun e => hl (by rw [e]))]; exact alikeP_ne v u xs ys w h1 h2 hl
  case pos =>
  have h1' := h1
  have h2' := h2
  obtain ⟨p1, cap1, rfl, hl1, _, _⟩ := h1
  obtain ⟨p2, cap2, rfl, hl2, _, _⟩ := h2
  have HC1 := Lib.hid h1'
  have HC2 := Lib.hid h2'
  have HL := Lib.hid hl
  rw [← hl]
  have hgP := guardP
  have hnP := neq_pt
  have hne : ((xs.length : Int) != (xs.length : Int)) = false := by simp
  clear hl hl2 h1' h2'
  go_enter Tryd.func75, Tryd.ntmps75
  go_wp2
  go_loopw [13] (fun i wr => EqRel xs ys w i wr) (fun i _ => xs.length - (intOf i).toNat)
  case atStart => exact ⟨0, Nat.zero_le _, rfl, rfl, Below.refl _ _⟩
  case round =>
    obtain ⟨k, hk, rfl, he, hB⟩ := hrel
    have HE := Lib.hid he
    clear he
    by_cases hlt : k < xs.length
    · obtain ⟨x, hx⟩ : ∃ x, xs[k]? = some x := ⟨_, List.getElem?_eq_getElem hlt⟩
      obtain ⟨y, hy⟩ : ∃ y, ys[k]? = some y := ⟨_, List.getElem?_eq_getElem (by have := HL.out; omega)⟩
      obtain ⟨b1, o1, e1, hcx, hcx', hcx''⟩ := pits_at HC1.out hx
      obtain ⟨b2, o2, e2, hcy, hcy', hcy''⟩ := pits_at HC2.out hy
      subst e1 e2
      have hcx := cell_later hB hcx
      have hcx' := cell_later hB hcx'
      have hcx'' := cell_later hB hcx''
      have hcy := cell_later hB hcy
      have hcy' := cell_later hB hcy'
      have hcy'' := cell_later hB hcy''
      have HX := Lib.hid hx
      have HY := Lib.hid hy
      have hlt' : (k : Int) < (xs.length : Int) := by omega
      clear hx hy
      obtain ⟨x0, x1, x2⟩ := x
      obtain ⟨y0, y1, y2⟩ := y
      dsimp only at hcx hcx' hcx'' hcy hcy' hcy''
      go_wp2_with fail
      go_quiet (fail)
      go_wp2
      · have hxy : (x0, x1, x2) ≠ (y0, y1, y2) := by
          have : (!eqP x0 x1 x2 y0 y1 y2) = true := by assumption
          intro e; cases e; rw [eqP_self] at this; cases this
        go_ret
        exact ⟨ret_bool (decide_eq_false (ne_at HX.out HY.out hxy)).symm, below_drewN hB _⟩
      · have hxy : (x0, x1, x2) = (y0, y1, y2) := by
          have : (!eqP x0 x1 x2 y0 y1 y2) = false := by assumption
          have h2 : eqP x0 x1 x2 y0 y1 y2 = true := by simpa using this
          obtain ⟨rfl, rfl, rfl⟩ := (eqP_iff _ _ _ _ _ _).1 h2
          rfl
        go_roundw
        case rel => exact ⟨k + 1, by omega, by go_num, take_eq HX.out HY.out HE.out hxy, below_drewN hB _⟩
        case measure => simp [intOf]; omega
    · obtain rfl : k = xs.length := by omega
      go_wp2
      go_ret
      exact ⟨ret_bool (decide_eq_true (eq_all HL.out HE.out)).symm, hB⟩
end Go.Proofs.YtobhmiknlbjmkaaDoor
