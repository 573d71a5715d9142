/-
  Several events together, in plain words: the pitches of all, each once, rising, tied if one is; marks; the first word. No program.
-/
import Derived.Test.YtobhmiknlbjmkaaDoorEvMath
namespace Go.Proofs.YtobhmiknlbjmkaaDoor.Evt
open Go.Proofs.YtobhmiknlbjmkaaDoor

/-- A right pitch's place in the one order. -/
def ky (p : P3) : Int := 1000 * Pit.num p.1 p.2.1 p.2.2 + Pit.lin p.1 p.2.2
theorem ky_lin {p : P3} (h : rgt p = true) : -7 ≤ Pit.lin p.1 p.2.2 ∧ Pit.lin p.1 p.2.2 ≤ 69 := by
  obtain ⟨h0, h1, _, _, h4, h5, _⟩ := ((Pit.right_iff _ _ _).1 h).all
  rw [Pit.lin_eq]; omega
theorem ky_inj {p q : P3} (hp : rgt p = true) (hq : rgt q = true) (h : ky p = ky q) : p = q := by
  have h1 := ky_lin hp
  have h2 := ky_lin hq
  unfold ky at h
  have h3 : Pit.lin p.1 p.2.2 = Pit.lin q.1 q.2.2 := by omega
  have h4 : Pit.num p.1 p.2.1 p.2.2 = Pit.num q.1 q.2.1 q.2.2 := by omega
  obtain ⟨e1, e2, e3⟩ := Pit.tells ((Pit.right_iff _ _ _).1 hp) ((Pit.right_iff _ _ _).1 hq) h3 h4
  exact Prod.ext e1 (Prod.ext e2 e3)
theorem cp_cases {p q : P3} (hp : rgt p = true) (hq : rgt q = true) : (ky p < ky q ∧ cp p q = -1) ∨ (ky p = ky q ∧ cp p q = 0) ∨ (ky q < ky p ∧ cp p q = 1) := by
  have h1 := ky_lin hp
  have h2 := ky_lin hq
  have e : cp p q = Pit.cmp2 (Pit.num p.1 p.2.1 p.2.2) (Pit.num q.1 q.2.1 q.2.2) (Pit.lin p.1 p.2.2) (Pit.lin q.1 q.2.2) := by
    unfold cp Pit.cmpP; rw [hp, hq]; rfl
  rw [e]
  unfold ky
  rcases Pit.cmp2_cases (Pit.num p.1 p.2.1 p.2.2) (Pit.num q.1 q.2.1 q.2.2) (Pit.lin p.1 p.2.2) (Pit.lin q.1 q.2.2) with ⟨h, e⟩ | ⟨h, h', e⟩ | ⟨h, e⟩
  · left; exact ⟨by omega, e⟩
  · right; left; exact ⟨by omega, e⟩
  · right; right; exact ⟨by omega, e⟩
theorem cp_lt {p q : P3} (hp : rgt p = true) (hq : rgt q = true) : cp p q < 0 ↔ ky p < ky q := by
  rcases cp_cases hp hq with ⟨h, e⟩ | ⟨h, e⟩ | ⟨h, e⟩ <;> rw [e] <;> constructor <;> intro g <;> omega
theorem cp_gt {p q : P3} (hp : rgt p = true) (hq : rgt q = true) : 0 < cp p q ↔ ky q < ky p := by
  rcases cp_cases hp hq with ⟨h, e⟩ | ⟨h, e⟩ | ⟨h, e⟩ <;> rw [e] <;> constructor <;> intro g <;> omega

def Asc (l : List P3) : Prop := l.Pairwise fun p q => ky p < ky q
theorem rise_asc : ∀ l : List P3, l.all rgt = true → (rise cp l = true ↔ Asc l)
  | [], _ => by simp [rise, Asc]
  | [_], _ => by simp [rise, Asc]
  | x :: y :: l, h => by
    rw [List.all_cons, Bool.and_eq_true] at h
    have hy : rgt y = true := by have := h.2; rw [List.all_cons, Bool.and_eq_true] at this; exact this.1
    rw [rise, Bool.and_eq_true, decide_eq_true_iff, cp_gt hy h.1, rise_asc (y :: l) h.2]
    unfold Asc
    rw [List.pairwise_cons (a := x)]
    constructor
    · rintro ⟨h1, h2⟩
      refine ⟨fun z hz => ?_, h2⟩
      rcases List.mem_cons.1 hz with rfl | hz
      · exact h1
      · have := (List.pairwise_cons.1 h2).1 z hz; omega
    · rintro ⟨h1, h2⟩
      exact ⟨h1 y (by simp), h2⟩
theorem asc_unique : ∀ l m : List P3, Asc l → Asc m → (∀ x, x ∈ l ↔ x ∈ m) → l = m
  | [], [], _, _, _ => rfl
  | [], y :: m, _, _, h => by have := (h y).2 (by simp); simp at this
  | x :: l, [], _, _, h => by have := (h x).1 (by simp); simp at this
  | x :: l, y :: m, hl, hm, h => by
    obtain ⟨hl1, hl2⟩ := List.pairwise_cons.1 hl
    obtain ⟨hm1, hm2⟩ := List.pairwise_cons.1 hm
    have e : x = y := by
      rcases List.mem_cons.1 ((h x).1 (by simp)) with e | e
      · exact e
      · rcases List.mem_cons.1 ((h y).2 (by simp)) with f | f
        · exact f.symm
        · have h1 := hm1 x e; have h2 := hl1 y f; omega
    subst e
    rw [asc_unique l m hl2 hm2 fun z => ?_]
    constructor
    · intro hz
      rcases List.mem_cons.1 ((h z).1 (by simp [hz])) with e | e
      · subst e; have := hl1 z hz; omega
      · exact e
    · intro hz
      rcases List.mem_cons.1 ((h z).2 (by simp [hz])) with e | e
      · subst e; have := hm1 z hz; omega
      · exact e

abbrev PT := P3 × Bool
/-- A pitch put where it belongs. -/
def putL (p : P3) (t : Bool) : List PT → List PT
  | [] => [(p, t)]
  | (q, s) :: r => if ky q < ky p then (q, s) :: putL p t r else if q = p then (p, t || s) :: r else (p, t) :: (q, s) :: r
def AscT (l : List PT) : Prop := l.Pairwise fun p q => ky p.1 < ky q.1
def RgtT (l : List PT) : Prop := ∀ x ∈ l, rgt x.1 = true
theorem ascT_fst {l : List PT} : AscT l ↔ Asc (l.map Prod.fst) := by unfold AscT Asc; rw [List.pairwise_map]
theorem putL_mem {p : P3} {t : Bool} : ∀ {l : List PT} {q : P3}, q ∈ (putL p t l).map Prod.fst ↔ q = p ∨ q ∈ l.map Prod.fst
  | [], q => by simp [putL]
  | (a, s) :: r, q => by
    unfold putL
    by_cases h1 : ky a < ky p
    · rw [if_pos h1, List.map_cons, List.mem_cons, putL_mem (l := r), List.map_cons, List.mem_cons]
      constructor
      · rintro (h | h | h)
        · exact Or.inr (Or.inl h)
        · exact Or.inl h
        · exact Or.inr (Or.inr h)
      · rintro (h | h | h)
        · exact Or.inr (Or.inl h)
        · exact Or.inl h
        · exact Or.inr (Or.inr h)
    · rw [if_neg h1]
      by_cases h2 : a = p
      · subst h2; rw [if_pos rfl]; simp
      · rw [if_neg h2]; simp
theorem putL_rgt {p : P3} {t : Bool} {l : List PT} (hp : rgt p = true) (h : RgtT l) : RgtT (putL p t l) := by
  intro x hx
  rcases putL_mem.1 (List.mem_map_of_mem (f := Prod.fst) hx) with e | e
  · rw [e]; exact hp
  · obtain ⟨y, hy, e⟩ := List.mem_map.1 e
    rw [← e]; exact h y hy
theorem putL_asc {p : P3} {t : Bool} (hp : rgt p = true) : ∀ {l : List PT}, RgtT l → AscT l → AscT (putL p t l)
  | [], _, _ => by simp [putL, AscT]
  | (a, s) :: r, hr, h => by
    obtain ⟨h1, h2⟩ := List.pairwise_cons.1 h
    have hr' : RgtT r := fun x hx => hr x (by simp [hx])
    have ha : rgt a = true := hr (a, s) (by simp)
    unfold putL
    by_cases k1 : ky a < ky p
    · rw [if_pos k1]
      refine List.pairwise_cons.2 ⟨fun x hx => ?_, putL_asc hp hr' h2⟩
      rcases putL_mem.1 (List.mem_map_of_mem (f := Prod.fst) hx) with e | e
      · rw [e]; exact k1
      · obtain ⟨y, hy, e⟩ := List.mem_map.1 e
        rw [← e]; exact h1 y hy
    · rw [if_neg k1]
      by_cases k2 : a = p
      · subst k2; rw [if_pos rfl]; exact List.pairwise_cons.2 ⟨h1, h2⟩
      · rw [if_neg k2]
        have : ky p < ky a := by
          have : ky p ≠ ky a := fun e => k2 (ky_inj hp ha e).symm
          omega
        refine List.pairwise_cons.2 ⟨fun x hx => ?_, h⟩
        rcases List.mem_cons.1 hx with rfl | hx
        · exact this
        · have := h1 x hx; simp only at *; omega
/-- Is that pitch tied in a list? -/
def tie (l : List PT) (q : P3) : Bool := l.any fun x => decide (x.1 = q) && x.2
theorem tie_cons (x : PT) (l : List PT) (q : P3) : tie (x :: l) q = ((decide (x.1 = q) && x.2) || tie l q) := by simp [tie]
theorem tie_append (l m : List PT) (q : P3) : tie (l ++ m) q = (tie l q || tie m q) := by simp [tie, List.any_append]
theorem tie_putL {p : P3} {t : Bool} {q : P3} : ∀ {l : List PT}, tie (putL p t l) q = (tie l q || (decide (p = q) && t))
  | [] => by simp [putL, tie]
  | (a, s) :: r => by
    unfold putL
    by_cases h1 : ky a < ky p
    · rw [if_pos h1, tie_cons, tie_putL, tie_cons, Bool.or_assoc]
    · rw [if_neg h1]
      by_cases h2 : a = p
      · subst h2
        rw [if_pos rfl, tie_cons, tie_cons]
        dsimp only
        cases decide (a = q) <;> cases t <;> cases s <;> cases tie r q <;> rfl
      · rw [if_neg h2, tie_cons]
        dsimp only
        cases decide (p = q) <;> cases t <;> cases tie ((a, s) :: r) q <;> rfl
/-- An ascending list is told by its pitches, and by which are tied. -/
theorem ascT_told : ∀ {l : List PT}, AscT l → l.map Prod.snd = (l.map Prod.fst).map (tie l)
  | [], _ => rfl
  | (a, s) :: r, h => by
    obtain ⟨h1, h2⟩ := List.pairwise_cons.1 h
    rw [List.map_cons, List.map_cons, List.map_cons, ascT_told h2]
    have e0 : tie r a = false := by
      rw [← Bool.not_eq_true]
      intro e
      obtain ⟨x, hx, e⟩ := List.any_eq_true.1 e
      rw [Bool.and_eq_true, decide_eq_true_iff] at e
      have := h1 x hx
      rw [e.1] at this
      simp at this
    congr 1
    · rw [tie_cons]; simp [e0]
    · apply List.map_congr_left
      intro q hq
      obtain ⟨y, hy, e⟩ := List.mem_map.1 hq
      have hne : ¬ a = q := by
        intro k
        have := h1 y hy
        rw [e, ← k] at this
        simp at this
      rw [tie_cons]
      simp [hne]

/-- The pitches of an event, with their ties. -/
def pts (x : Ev) : List PT := x.ps.zip x.ts
def fl (l : List Ev) : List PT := l.flatMap pts
def putAll (a : List PT) (m : List PT) : List PT := m.foldl (fun a x => putL x.1 x.2 a) a
theorem putAll_nil (a : List PT) : putAll a [] = a := rfl
theorem putAll_cons (a : List PT) (x : PT) (m : List PT) : putAll a (x :: m) = putAll (putL x.1 x.2 a) m := rfl
theorem putAll_append (a m n : List PT) : putAll a (m ++ n) = putAll (putAll a m) n := by unfold putAll; rw [List.foldl_append]
theorem putAll_mem : ∀ {m a : List PT} {q : P3}, q ∈ (putAll a m).map Prod.fst ↔ q ∈ m.map Prod.fst ∨ q ∈ a.map Prod.fst
  | [], a, q => by simp [putAll_nil]
  | x :: m, a, q => by
    rw [putAll_cons, putAll_mem, putL_mem, List.map_cons, List.mem_cons]
    constructor
    · rintro (h | h | h)
      · exact Or.inl (Or.inr h)
      · exact Or.inl (Or.inl h)
      · exact Or.inr h
    · rintro ((h | h) | h)
      · exact Or.inr (Or.inl h)
      · exact Or.inl h
      · exact Or.inr (Or.inr h)
theorem putAll_good : ∀ {m a : List PT}, RgtT m → RgtT a → AscT a → RgtT (putAll a m) ∧ AscT (putAll a m)
  | [], _, _, h1, h2 => ⟨h1, h2⟩
  | x :: m, a, hm, h1, h2 => by
    rw [putAll_cons]
    have hx : rgt x.1 = true := hm x (by simp)
    exact putAll_good (fun y hy => hm y (by simp [hy])) (putL_rgt hx h1) (putL_asc hx h1 h2)
theorem tie_putAll {q : P3} : ∀ {m a : List PT}, tie (putAll a m) q = (tie a q || tie m q)
  | [], a => by simp [putAll_nil, tie]
  | x :: m, a => by
    rw [putAll_cons, tie_putAll, tie_putL, tie_cons, Bool.or_assoc]
/-- The pitches of all, each once, rising, with their ties. -/
def allP (l : List Ev) : List PT := putAll [] (fl l)
theorem allP_told {l : List Ev} (hr : RgtT (fl l)) : RgtT (allP l) ∧ AscT (allP l) ∧ (∀ q, q ∈ (allP l).map Prod.fst ↔ q ∈ (fl l).map Prod.fst) ∧ (∀ q, tie (allP l) q = tie (fl l) q) := by
  obtain ⟨h1, h2⟩ := putAll_good (a := []) hr (by intro x hx; simp at hx) (by simp [AscT])
  exact ⟨h1, h2, fun q => by unfold allP; rw [putAll_mem]; simp, fun q => by unfold allP; rw [tie_putAll]; simp [tie]⟩
/-- Whatever rises and has the same pitches is that list; its ties are those of all. -/
theorem allP_is {l : List Ev} {S : List P3} (hr : RgtT (fl l)) (hS : Asc S) (hm : ∀ q, q ∈ S ↔ q ∈ (fl l).map Prod.fst) : (allP l).map Prod.fst = S ∧ (allP l).map Prod.snd = S.map (tie (fl l)) := by
  obtain ⟨h1, h2, h3, h4⟩ := allP_told hr
  have e : (allP l).map Prod.fst = S := asc_unique _ _ (ascT_fst.1 h2) hS (fun x => (h3 x).trans (hm x).symm)
  refine ⟨e, ?_⟩
  rw [ascT_told h2, e]
  exact List.map_congr_left fun q _ => h4 q

/-- The marks of all. -/
def mk (l : List Ev) : List Int := [1, 2, 3, 4].filter fun m => l.any fun x => x.ms.contains m
def fw : List Ev → ByteArray
  | [] => ByteArray.empty
  | x :: l => if x.s.size = 0 then fw l else x.s
def sameVal (x y : Ev) : Bool := decide (y.b = x.b ∧ y.d = x.d ∧ y.n = x.n ∧ y.e = x.e)
def one (x : Ev) (l : List Ev) : Ev :=
  { k := if allP (x :: l) = [] then 0 else 1, ps := (allP (x :: l)).map Prod.fst, ts := (allP (x :: l)).map Prod.snd, b := x.b, d := x.d, n := x.n, e := x.e, ms := mk (x :: l), s := fw (x :: l) }
def chordE : List Ev → Ev × Int
  | [] => (zero, 2)
  | x :: l => if !((x :: l).all right) then (zero, 60) else if !((x :: l).all (sameVal x)) then (zero, 2) else rightAlone (one x l)
end Go.Proofs.YtobhmiknlbjmkaaDoor.Evt
