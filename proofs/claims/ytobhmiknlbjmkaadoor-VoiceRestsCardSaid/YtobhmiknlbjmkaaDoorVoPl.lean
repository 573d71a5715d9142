/-
  Layer 7 in plain words: places, and what an iterator over events with their places hands on.
-/
import Derived.Test.YtobhmiknlbjmkaaDoorVoB
import Derived.Test.YtobhmiknlbjmkaaDoorVoRat
namespace Go.Proofs.YtobhmiknlbjmkaaDoor
open Go.RowKit
open Evt (P3 Ev)

namespace Voi
abbrev R2 := Int × Int
/-- Two ratios together, and the error. -/
def addR (a b : R2) : R2 × Int := ((binN (Rat.right a.1 a.2 && Rat.right b.1 b.2) (a.1 * b.2 + b.1 * a.2) (a.2 * b.2), binD (Rat.right a.1 a.2 && Rat.right b.1 b.2) (a.1 * b.2 + b.1 * a.2) (a.2 * b.2)), binE (Rat.right a.1 a.2 && Rat.right b.1 b.2) (a.1 * b.2 + b.1 * a.2) (a.2 * b.2))
/-- A right event's length. -/
def lnR (x : Ev) : R2 := (Val.lenN x.b x.d x.n x.e, Val.lenD x.b x.d x.n x.e)
/-- An event of a voice, with its number and its places, and an error. -/
structure Sp where
  num : Int
  y : EM
  fr : R2
  tt : R2
  er : Int
def Sp.zero (e : Int) : Sp := ⟨0, (Evt.zero, .slice none 0 0, .slice none 0 0, .slice none 0 0), (0, 0), (0, 0), e⟩
/-- What the events from number n on, at the place f, hand on. -/
def run : Nat → R2 → List EM → List Sp
  | _, _, [] => []
  | n, f, y :: l => if (addR f (lnR y.1)).2 = 0 then ⟨(n : Int), y, f, (addR f (lnR y.1)).1, 0⟩ :: run (n + 1) (addR f (lnR y.1)).1 l else [Sp.zero (addR f (lnR y.1)).2]
/-- .. what a voice does. -/
def spn (ys : List EM) : List Sp := if (chk (ys.map Prod.fst)).2 = 0 then run 0 (0, 1) ys else [Sp.zero (chk (ys.map Prod.fst)).2]
/-- An element as it is handed on. -/
def encS (x : Sp) : Array Value := #[.agg #[.int .i64 x.num, .int .i64 x.y.1.k, x.y.2.1, x.y.2.2.1, .int .i64 x.y.1.b, .int .i64 x.y.1.d, .int .i64 x.y.1.n, .int .i64 x.y.1.e, x.y.2.2.2, .string x.y.1.s, .int .i64 x.fr.1, .int .i64 x.fr.2, .int .i64 x.tt.1, .int .i64 x.tt.2], .int .i64 x.er]
theorem run_step {n : Nat} {f : R2} {l : List EM} {k : Nat} {y : EM} (h : l[k]? = some y) (he : (addR f (lnR y.1)).2 = 0) : run n f (l.drop k) = ⟨(n : Int), y, f, (addR f (lnR y.1)).1, 0⟩ :: run (n + 1) (addR f (lnR y.1)).1 (l.drop (k + 1)) := by
  obtain ⟨hk, rfl⟩ := List.getElem?_eq_some_iff.1 h
  rw [List.drop_eq_getElem_cons hk, run, if_pos he]
theorem run_stop {n : Nat} {f : R2} {l : List EM} {k : Nat} {y : EM} (h : l[k]? = some y) (he : (addR f (lnR y.1)).2 ≠ 0) : run n f (l.drop k) = [Sp.zero (addR f (lnR y.1)).2] := by
  obtain ⟨hk, rfl⟩ := List.getElem?_eq_some_iff.1 h
  rw [List.drop_eq_getElem_cons hk, run, if_neg he]
theorem run_end {n : Nat} {f : R2} {l : List EM} {k : Nat} (h : l.length ≤ k) : run n f (l.drop k) = [] := by
  rw [List.drop_of_length_le h, run]
theorem chk_ok_iff {l : List Ev} (h : (chk l).2 = 0) : chk l = (0, 0) ∧ l.length ≤ 64 ∧ l.all Evt.right = true ∧ loose l = none := by
  unfold chk at h ⊢
  by_cases h1 : 64 < l.length
  · rw [if_pos h1] at h; cases h
  rw [if_neg h1] at h ⊢
  cases h2 : wrongAt l with
  | some k => rw [h2] at h; cases h
  | none =>
    rw [h2] at h
    cases h3 : loose l with
    | some k => rw [h3] at h; cases h
    | none => exact ⟨rfl, by omega, wrongAt_all h2, rfl⟩
end Voi
/-- What a consumer of an iterator may turn: its own blocks S, and what it owns by its state. -/
structure KQ (n₀ : Nat) (S : Nat → Prop) (own : World → Nat → Prop) (W W' : World) : Prop where
  below : Below n₀ W W'
  same : ∀ (k : Nat) (cur : Array Value) (t : TypeId) (f : Nat × Nat), ¬ S k → ¬ own W k → W.heap[k]? = some (.cells cur t f) → W'.heap[k]? = some (.cells cur t f)
  news : ∀ k, own W' k → own W k ∨ W.heap.size ≤ k
theorem KQ.refl (n₀ : Nat) (S : Nat → Prop) (own : World → Nat → Prop) (W : World) : KQ n₀ S own W W := ⟨Below.refl _ _, fun _ _ _ _ _ _ h => h, fun _ h => Or.inl h⟩
theorem KQ.trans {n₀ : Nat} {S : Nat → Prop} {own : World → Nat → Prop} {A B C : World} (h : KQ n₀ S own A B) (k : KQ n₀ S own B C) : KQ n₀ S own A C :=
  ⟨h.below.trans k.below, fun i cur t f hS ho hi => by
    have h1 := h.same i cur t f hS ho hi
    refine k.same i cur t f hS (fun hB => ?_) h1
    have hlt := (Array.getElem?_eq_some_iff.1 hi).1
    rcases h.news i hB with h2 | h2
    · exact ho h2
    · omega, fun i hC => by
    rcases k.news i hC with h1 | h1
    · exact h.news i h1
    · exact Or.inr (Nat.le_trans h.below.size h1)⟩
end Go.Proofs.YtobhmiknlbjmkaaDoor
