/-
  Layer 7 in plain words: which voices may be, where ties lead, and which are the same. No program.
-/
import Derived.Test.YtobhmiknlbjmkaaDoorEvSum
import Derived.Test.YtobhmiknlbjmkaaDoorVoEv
namespace Go.Proofs.YtobhmiknlbjmkaaDoor.Voi
open Evt (P3 Ev)

/-- Is a pitch one of a list? -/
def inL (l : List P3) (p : P3) : Bool := l.any fun x => decide (p = x)
theorem inL_mem {l : List P3} {p : P3} : inL l p = true ↔ p ∈ l := by
  unfold inL
  rw [List.any_eq_true]
  constructor
  · rintro ⟨x, hx, h⟩; rw [of_decide_eq_true h]; exact hx
  · intro h; exact ⟨p, h, by simp⟩
/-- Has the event behind all that an event ties? -/
def led (x y : Ev) : Bool := (Evt.pts x).all fun q => !q.2 || inL y.ps q.1
/-- The first event that is not right. -/
def wrongAt : List Ev → Option Nat
  | [] => none
  | x :: l => if Evt.right x = true then (wrongAt l).map (· + 1) else some 0
theorem wrongAt_none : ∀ {l : List Ev}, l.all Evt.right = true → wrongAt l = none
  | [], _ => rfl
  | x :: l, h => by
    rw [List.all_cons, Bool.and_eq_true] at h
    rw [wrongAt, if_pos h.1, wrongAt_none h.2]; rfl
theorem wrongAt_some : ∀ {l : List Ev} {k : Nat} {x : Ev}, (l.take k).all Evt.right = true → l[k]? = some x → Evt.right x = false → wrongAt l = some k
  | [], k, x, _, h, _ => by simp at h
  | y :: l, 0, x, _, h, hx => by
    simp at h; subst h
    rw [wrongAt, if_neg (by rw [hx]; simp)]
  | y :: l, k + 1, x, ht, h, hx => by
    rw [List.take_succ_cons, List.all_cons, Bool.and_eq_true] at ht
    rw [wrongAt, if_pos ht.1, wrongAt_some ht.2 (by simpa using h) hx]; rfl
theorem wrongAt_all : ∀ {l : List Ev}, wrongAt l = none → l.all Evt.right = true
  | [], _ => rfl
  | x :: l, h => by
    rw [wrongAt] at h
    cases hx : Evt.right x
    · rw [hx] at h; cases h
    · rw [if_pos hx] at h
      rw [List.all_cons, hx, wrongAt_all (by simpa using h)]; rfl
/-- The first event that ties what the one behind has not. -/
def loose : List Ev → Option Nat
  | x :: y :: l => if led x y = true then (loose (y :: l)).map (· + 1) else some 0
  | _ => none
theorem loose_none : ∀ {l : List Ev}, (∀ (j : Nat) x y, l[j]? = some x → l[j + 1]? = some y → led x y = true) → loose l = none
  | [], _ => rfl
  | [_], _ => rfl
  | x :: y :: l, h => by
    rw [loose, if_pos (h 0 x y rfl rfl), loose_none (l := y :: l) fun j a b ha hb => h (j + 1) a b (by simpa using ha) (by simpa using hb)]; rfl
theorem loose_some : ∀ {l : List Ev} {k : Nat} {x y : Ev}, (∀ (j : Nat) a b, j < k → l[j]? = some a → l[j + 1]? = some b → led a b = true) → l[k]? = some x → l[k + 1]? = some y → led x y = false → loose l = some k
  | [], k, x, y, _, h, _, _ => by simp at h
  | [a], k, x, y, _, _, h, _ => by simp at h
  | a :: b :: l, 0, x, y, _, h, h2, hn => by
    simp at h h2; subst h h2
    rw [loose, if_neg (by rw [hn]; simp)]
  | a :: b :: l, k + 1, x, y, hj, h, h2, hn => by
    rw [loose, if_pos (hj 0 a b (by omega) rfl rfl), loose_some (l := b :: l) (k := k) (fun j c d hk hc hd => hj (j + 1) c d (by omega) (by simpa using hc) (by simpa using hd)) (by simpa using h) (by simpa using h2) hn]; rfl
/-- Check's answer. -/
def chk (l : List Ev) : Int × Int :=
  if 64 < l.length then (64, 70) else match wrongAt l with
    | some k => ((k : Int), 60)
    | none => match loose l with
      | some k => ((k : Int), 71)
      | none => (0, 0)
theorem chk_many {l : List Ev} (h : 64 < l.length) : chk l = (64, 70) := by unfold chk; rw [if_pos h]
theorem chk_wrong {l : List Ev} {k : Nat} {x : Ev} (h : ¬ 64 < l.length) (ht : (l.take k).all Evt.right = true) (hx : l[k]? = some x) (hn : Evt.right x = false) : chk l = ((k : Int), 60) := by unfold chk; rw [if_neg h, wrongAt_some ht hx hn]
theorem chk_loose {l : List Ev} {k : Nat} {x y : Ev} (h : ¬ 64 < l.length) (ha : l.all Evt.right = true) (hj : ∀ (j : Nat) a b, j < k → l[j]? = some a → l[j + 1]? = some b → led a b = true) (hx : l[k]? = some x) (hy : l[k + 1]? = some y) (hn : led x y = false) : chk l = ((k : Int), 71) := by
  unfold chk; rw [if_neg h, wrongAt_none ha, loose_some hj hx hy hn]
theorem chk_ok {l : List Ev} (h : ¬ 64 < l.length) (ha : l.all Evt.right = true) (hj : ∀ (j : Nat) a b, l[j]? = some a → l[j + 1]? = some b → led a b = true) : chk l = (0, 0) := by
  unfold chk; rw [if_neg h, wrongAt_none ha, loose_none hj]
/-- Are two voices the same? -/
def same : List Ev → List Ev → Bool
  | [], [] => true
  | x :: l, y :: m => sameE x y && same l m
  | _, _ => false
theorem same_len : ∀ {l m : List Ev}, l.length ≠ m.length → same l m = false
  | [], [], h => by simp at h
  | [], _ :: _, _ => rfl
  | _ :: _, [], _ => rfl
  | x :: l, y :: m, h => by rw [same, same_len (by simpa using h), Bool.and_false]
theorem same_not : ∀ {l m : List Ev} {k : Nat} {x y : Ev}, l[k]? = some x → m[k]? = some y → sameE x y = false → same l m = false
  | [], _, k, x, y, h, _, _ => by simp at h
  | _ :: _, [], k, x, y, _, h, _ => by simp at h
  | a :: l, b :: m, 0, x, y, h1, h2, hn => by simp at h1 h2; subst h1 h2; rw [same, hn]; rfl
  | a :: l, b :: m, k + 1, x, y, h1, h2, hn => by rw [same, same_not (by simpa using h1) (by simpa using h2) hn, Bool.and_false]
theorem same_yes : ∀ {l m : List Ev}, l.length = m.length → (∀ (j : Nat) x y, l[j]? = some x → m[j]? = some y → sameE x y = true) → same l m = true
  | [], [], _, _ => rfl
  | [], _ :: _, h, _ => by simp at h
  | _ :: _, [], h, _ => by simp at h
  | x :: l, y :: m, h, hj => by rw [same, hj 0 x y rfl rfl, same_yes (by simpa using h) fun j a b ha hb => hj (j + 1) a b (by simpa using ha) (by simpa using hb)]; rfl
end Go.Proofs.YtobhmiknlbjmkaaDoor.Voi
