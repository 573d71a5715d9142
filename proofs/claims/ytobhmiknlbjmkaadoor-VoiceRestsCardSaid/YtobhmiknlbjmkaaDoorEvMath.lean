/-
  Events in plain words: which are right, which are the same, what goes up, what several are together. No program.
-/
import Derived.Test.YtobhmiknlbjmkaaDoorPitMath
import Derived.Test.YtobhmiknlbjmkaaDoorValMath
import Derived.Lib.ValidLaws
namespace Go.Proofs.YtobhmiknlbjmkaaDoor.Evt
open Go.Proofs.YtobhmiknlbjmkaaDoor

abbrev P3 := Int × Int × Int
/-- An event: its kind, pitches, ties, value (base, dots, tuplet), marks and word. -/
structure Ev where
  k : Int
  ps : List P3
  ts : List Bool
  b : Int
  d : Int
  n : Int
  e : Int
  ms : List Int
  s : ByteArray
def zero : Ev := ⟨0, [], [], 0, 0, 0, 0, [], ByteArray.empty⟩
theorem Ev.ext' {x y : Ev} (h1 : x.k = y.k) (h2 : x.ps = y.ps) (h3 : x.ts = y.ts) (h4 : x.b = y.b) (h5 : x.d = y.d) (h6 : x.n = y.n) (h7 : x.e = y.e) (h8 : x.ms = y.ms) (h9 : x.s = y.s) : x = y := by
  cases x; cases y; simp_all
def rgt (p : P3) : Bool := Pit.right p.1 p.2.1 p.2.2
def cp (p q : P3) : Int := Pit.cmpP (rgt p && rgt q) p.1 p.2.1 p.2.2 q.1 q.2.1 q.2.2
/-- Is each but the first above the one ahead of it? -/
def rise {α : Type} (c : α → α → Int) : List α → Bool
  | [] => true
  | [_] => true
  | x :: y :: l => decide (0 < c y x) && rise c (y :: l)
theorem rise_iff {α : Type} (c : α → α → Int) : ∀ l : List α, rise c l = true ↔ ∀ (j : Nat) (x y : α), l[j]? = some x → l[j + 1]? = some y → 0 < c y x
  | [] => by simp [rise]
  | [_] => by simp [rise]
  | x :: y :: l => by
    rw [rise, Bool.and_eq_true, rise_iff c (y :: l), decide_eq_true_iff]
    constructor
    · rintro ⟨h0, h⟩ j u v hu hv
      cases j with
      | zero => simp at hu hv; subst hu hv; exact h0
      | succ j => exact h j u v (by simpa using hu) (by simpa using hv)
    · intro h
      exact ⟨h 0 x y rfl rfl, fun j u v hu hv => h (j + 1) u v (by simpa using hu) (by simpa using hv)⟩
theorem rise_take {α : Type} {c : α → α → Int} {l : List α} {k : Nat} {x y : α} (hx : l[k]? = some x) (hy : l[k + 1]? = some y) (h : rise c (l.take (k + 1)) = true) (hc : 0 < c y x) : rise c (l.take (k + 1 + 1)) = true := by
  rw [rise_iff] at h ⊢
  intro j u v hu hv
  rw [List.getElem?_take] at hu hv
  by_cases h1 : j < k + 1 + 1
  case neg => rw [if_neg h1] at hu; cases hu
  by_cases h2 : j + 1 < k + 1 + 1
  case neg => rw [if_neg h2] at hv; cases hv
  rw [if_pos h1] at hu
  rw [if_pos h2] at hv
  by_cases hj : j = k
  · subst hj; rw [hx] at hu; rw [hy] at hv; cases hu; cases hv; exact hc
  · exact h j u v (by rw [List.getElem?_take, if_pos (by omega)]; exact hu) (by rw [List.getElem?_take, if_pos (by omega)]; exact hv)
theorem rise_not {α : Type} {c : α → α → Int} {l : List α} {k : Nat} {x y : α} (hx : l[k]? = some x) (hy : l[k + 1]? = some y) (hc : ¬ 0 < c y x) : rise c l = false := by
  rw [← Bool.not_eq_true, rise_iff]
  intro h
  exact hc (h k x y hx hy)
theorem rise_one {α : Type} (c : α → α → Int) (l : List α) : rise c (l.take 1) = true := by
  cases l with
  | nil => rfl
  | cons x l => rfl
theorem all_take {α : Type} {f : α → Bool} {l : List α} {k : Nat} {x : α} (hx : l[k]? = some x) (h : (l.take k).all f = true) (hf : f x = true) : (l.take (k + 1)).all f = true := by
  obtain ⟨hk, rfl⟩ := List.getElem?_eq_some_iff.1 hx
  rw [List.take_succ_eq_append_getElem hk, List.all_append, h]
  simpa using hf
theorem all_not {α : Type} {f : α → Bool} {l : List α} {k : Nat} {x : α} (hx : l[k]? = some x) (hf : f x = false) : l.all f = false := by
  rw [← Bool.not_eq_true, List.all_eq_true]
  intro h
  rw [h x (List.mem_of_getElem? hx)] at hf
  cases hf
def markR (m : Int) : Bool := decide (1 ≤ m ∧ m ≤ 4)
def ferm (m : Int) : Bool := m == 4
def byteR (c : UInt8) : Bool := decide (32 ≤ c.toNat ∧ c.toNat ≠ 127)
def wordR (s : ByteArray) : Bool := decide (s.size ≤ 40) && (Lib.validD s.data.toList && s.data.toList.all byteR)
def marksR (l : List Int) : Bool := l.all markR && rise Pit.cmp l
def restR (x : Ev) : Bool := decide (x.ps.length = 0) && (decide (x.ts.length = 0) && (decide (x.s.size = 0) && x.ms.all ferm))
def chordR (x : Ev) : Bool := (decide (1 ≤ x.ps.length ∧ x.ps.length ≤ 8) && decide (x.ts.length = x.ps.length)) && (x.ps.all rgt && rise cp x.ps)
def kindR (x : Ev) : Bool := if x.k = 0 then restR x else if x.k = 1 then chordR x else false
def right (x : Ev) : Bool := Val.ok x.b x.d x.n x.e && (wordR x.s && (marksR x.ms && kindR x))
/-- Up. -/
def upP (S H : Int) (p : P3) : Option P3 := Pit.up p.1 p.2.1 p.2.2 S H
def lift (S H : Int) : List P3 → Option (List P3)
  | [] => some []
  | p :: l => match upP S H p with
    | some q => (lift S H l).map (fun r => q :: r)
    | none => none
theorem lift_append (S H : Int) : ∀ l m : List P3, lift S H (l ++ m) = (lift S H l).bind fun a => (lift S H m).map fun b => a ++ b
  | [], m => by simp [lift]
  | p :: l, m => by
    rw [List.cons_append, lift, lift, lift_append S H l m]
    cases upP S H p with
    | none => rfl
    | some q =>
      cases lift S H l with
      | none => rfl
      | some a => cases lift S H m <;> rfl
theorem lift_one (S H : Int) (p : P3) : lift S H [p] = (upP S H p).map fun q => [q] := by
  rw [lift]; cases upP S H p <;> rfl
theorem lift_length (S H : Int) : ∀ (l m : List P3), lift S H l = some m → m.length = l.length
  | [], m, h => by simp [lift] at h; subst h; rfl
  | p :: l, m, h => by
    rw [lift] at h
    cases hp : upP S H p with
    | none => rw [hp] at h; cases h
    | some q =>
      rw [hp] at h
      cases hl : lift S H l with
      | none => simp [hl] at h
      | some a => simp [hl] at h; subst h; simp [lift_length S H l a hl]
theorem lift_take_none {S H : Int} {l : List P3} {k : Nat} {p : P3} (hp : l[k]? = some p) (hu : upP S H p = none) : lift S H l = none := by
  obtain ⟨hk, rfl⟩ := List.getElem?_eq_some_iff.1 hp
  rw [← List.take_append_drop k l, List.drop_eq_getElem_cons hk, lift_append]
  cases lift S H (l.take k) with
  | none => rfl
  | some a => simp [lift, hu]
theorem lift_take {S H : Int} {l : List P3} {k : Nat} {p q : P3} {m : List P3} (hp : l[k]? = some p) (hm : lift S H (l.take k) = some m) (hu : upP S H p = some q) : lift S H (l.take (k + 1)) = some (m ++ [q]) := by
  obtain ⟨hk, rfl⟩ := List.getElem?_eq_some_iff.1 hp
  rw [List.take_succ_eq_append_getElem hk, lift_append, hm, lift_one, hu]
  rfl
def rightAlone (x : Ev) : Ev × Int := if right x then (x, 0) else (zero, 60)
def upE (S H : Int) (x : Ev) : Ev × Int :=
  if right x then match lift S H x.ps with
    | some ps => rightAlone { x with ps := ps }
    | none => (zero, 20)
  else (zero, 60)
def tied (x : Ev) : Bool := right x && x.ts.any (fun t => t)
end Go.Proofs.YtobhmiknlbjmkaaDoor.Evt
