/-
  Pitches in plain numbers: which are right, their numbers and lines, what is so far above one, which is the higher one. No program.
-/
import Derived.Lib.Hide
namespace Go.Proofs.YtobhmiknlbjmkaaDoor.Pit

def I64 (n : Int) : Prop := -9223372036854775808 ≤ n ∧ n ≤ 9223372036854775807
/-- The half tones of a step above C. -/
def hv (s : Int) : Int := if s < 3 then 2 * s else 2 * s - 1
def num (s a o : Int) : Int := 12 * (o + 1) + hv s + a
def lin (s o : Int) : Int := 7 * o + s
structure IsRight (s a o : Int) : Prop where
  s0 : 0 ≤ s
  s6 : s ≤ 6
  a0 : -2 ≤ a
  a2 : a ≤ 2
  o0 : -1 ≤ o
  o9 : o ≤ 9
  n0 : 0 ≤ num s a o
  nM : num s a o ≤ 127
def right (s a o : Int) : Bool := decide (0 ≤ s ∧ s ≤ 6 ∧ -2 ≤ a ∧ a ≤ 2 ∧ -1 ≤ o ∧ o ≤ 9 ∧ 0 ≤ num s a o ∧ num s a o ≤ 127)
theorem right_iff (s a o : Int) : right s a o = true ↔ IsRight s a o := by
  unfold right
  rw [decide_eq_true_iff]
  exact ⟨fun ⟨a, b, c, d, e, f, g, h⟩ => ⟨a, b, c, d, e, f, g, h⟩, fun ⟨a, b, c, d, e, f, g, h⟩ => ⟨a, b, c, d, e, f, g, h⟩⟩
theorem right_true {s a o : Int} (h : IsRight s a o) : right s a o = true := (right_iff _ _ _).2 h
theorem right_false {s a o : Int} (h : ¬ IsRight s a o) : right s a o = false := by
  cases hr : right s a o
  · rfl
  · exact absurd ((right_iff _ _ _).1 hr) h
theorem hv_cases (s : Int) : (s < 3 ∧ hv s = 2 * s) ∨ (3 ≤ s ∧ hv s = 2 * s - 1) := by
  unfold hv
  by_cases h : s < 3
  · left; rw [if_pos h]; exact ⟨h, rfl⟩
  · right; rw [if_neg h]; exact ⟨by omega, rfl⟩
/-- All of a right pitch in one conjunction. -/
theorem IsRight.all {s a o : Int} (h : IsRight s a o) : 0 ≤ s ∧ s ≤ 6 ∧ -2 ≤ a ∧ a ≤ 2 ∧ -1 ≤ o ∧ o ≤ 9 ∧ 0 ≤ 12 * (o + 1) + hv s + a ∧ 12 * (o + 1) + hv s + a ≤ 127 :=
  ⟨h.s0, h.s6, h.a0, h.a2, h.o0, h.o9, h.n0, h.nM⟩
theorem IsRight.i64 {s a o : Int} (h : IsRight s a o) : I64 s ∧ I64 a ∧ I64 o := by
  obtain ⟨h0, h1, h2, h3, h4, h5, _⟩ := h.all
  unfold I64; omega
theorem num_eq (s a o : Int) : num s a o = 12 * (o + 1) + hv s + a := rfl
theorem lin_eq (s o : Int) : lin s o = 7 * o + s := rfl

/-- Line and number tell a right pitch. -/
theorem tells {s a o s' a' o' : Int} (h : IsRight s a o) (h' : IsRight s' a' o') (hl : lin s o = lin s' o') (hn : num s a o = num s' a' o') : s = s' ∧ a = a' ∧ o = o' := by
  obtain ⟨h0, h1, -⟩ := h.all
  obtain ⟨k0, k1, -⟩ := h'.all
  rw [lin_eq, lin_eq] at hl
  obtain rfl : s = s' := by omega
  obtain rfl : o = o' := by omega
  rw [num_eq, num_eq] at hn
  exact ⟨rfl, by omega, rfl⟩

/-- What Up answers, if there is such a pitch. -/
def upS (s o S : Int) : Int := (lin s o + S + 7) % 7
def upO (s o S : Int) : Int := (lin s o + S + 7) / 7 - 1
def upA (s a o S H : Int) : Int := num s a o + H - num (upS s o S) 0 (upO s o S)
def upOk (s a o S H : Int) : Bool := right s a o && decide (-127 ≤ S ∧ S ≤ 127 ∧ -127 ≤ H ∧ H ≤ 127 ∧ 0 ≤ lin s o + S + 7) && right (upS s o S) (upA s a o S H) (upO s o S)
def up (s a o S H : Int) : Option (Int × Int × Int) := if upOk s a o S H then some (upS s o S, upA s a o S H, upO s o S) else none
theorem up_sound {s a o S H s' a' o' : Int} (h : up s a o S H = some (s', a', o')) : IsRight s a o ∧ IsRight s' a' o' ∧ lin s' o' = lin s o + S ∧ num s' a' o' = num s a o + H := by
  unfold up at h
  by_cases hk : upOk s a o S H = true
  · rw [if_pos hk] at h
    simp only [Option.some.injEq, Prod.mk.injEq] at h
    obtain ⟨h1, h2, h3⟩ := h
    unfold upOk at hk
    rw [Bool.and_eq_true, Bool.and_eq_true, decide_eq_true_iff, right_iff, right_iff] at hk
    obtain ⟨⟨hr, -⟩, hq⟩ := hk
    have e1 : num s' a' o' = num s a o + H := by
      rw [← h1, ← h2, ← h3]; unfold upA; simp only [num_eq]; omega
    have e2 : lin s' o' = lin s o + S := by
      rw [← h1, ← h3]; unfold upS upO; rw [lin_eq]; omega
    rw [h1, h2, h3] at hq
    exact ⟨hr, hq, e2, e1⟩
  · rw [if_neg hk] at h; cases h
theorem up_complete {s a o S H s' a' o' : Int} (h : IsRight s a o) (h' : IsRight s' a' o') (hl : lin s' o' = lin s o + S) (hn : num s' a' o' = num s a o + H) : up s a o S H = some (s', a', o') := by
  obtain ⟨h0, h1, h2, h3, h4, h5, h6, h7⟩ := h.all
  obtain ⟨k0, k1, k2, k3, k4, k5, k6, k7⟩ := h'.all
  have e1 : upS s o S = s' := by unfold upS; rw [← hl, lin_eq]; omega
  have e2 : upO s o S = o' := by unfold upO; rw [← hl, lin_eq]; omega
  have e3 : upA s a o S H = a' := by unfold upA; rw [e1, e2, ← hn, num_eq, num_eq]; omega
  have ek : upOk s a o S H = true := by
    unfold upOk
    rw [e1, e2, e3, Bool.and_eq_true, Bool.and_eq_true, decide_eq_true_iff, right_iff, right_iff]
    simp only [lin_eq, num_eq] at hl hn
    refine ⟨⟨h, ?_⟩, h'⟩
    rw [lin_eq]
    rcases hv_cases s with ⟨_, e⟩ | ⟨_, e⟩ <;> rcases hv_cases s' with ⟨_, e'⟩ | ⟨_, e'⟩ <;> rw [e] at h6 h7 hn <;> rw [e'] at k6 k7 hn <;> omega
  unfold up
  rw [if_pos ek, e1, e2, e3]
theorem up_iff {s a o S H s' a' o' : Int} : up s a o S H = some (s', a', o') ↔ IsRight s a o ∧ IsRight s' a' o' ∧ lin s' o' = lin s o + S ∧ num s' a' o' = num s a o + H :=
  ⟨up_sound, fun ⟨a, b, c, d⟩ => up_complete a b c d⟩
theorem up_none {s a o S H : Int} (h : ∀ s' a' o', IsRight s a o → IsRight s' a' o' → lin s' o' = lin s o + S → num s' a' o' = num s a o + H → False) : up s a o S H = none := by
  cases hu : up s a o S H with
  | none => rfl
  | some q =>
    obtain ⟨s', a', o'⟩ := q
    obtain ⟨h1, h2, h3, h4⟩ := up_sound hu
    exact absurd h4 (fun h4 => h s' a' o' h1 h2 h3 h4)

/-- By number, and then by line. -/
def cmp (m n : Int) : Int := if m < n then -1 else if m = n then 0 else 1
def cmp2 (m n k l : Int) : Int := if cmp m n = 0 then cmp k l else cmp m n
theorem cmp_cases (m n : Int) : (m < n ∧ cmp m n = -1) ∨ (m = n ∧ cmp m n = 0) ∨ (n < m ∧ cmp m n = 1) := by
  unfold cmp
  by_cases h : m < n
  · rw [if_pos h]; exact Or.inl ⟨h, rfl⟩
  · by_cases h' : m = n
    · rw [if_neg h, if_pos h']; exact Or.inr (Or.inl ⟨h', rfl⟩)
    · rw [if_neg h, if_neg h']; exact Or.inr (Or.inr ⟨by omega, rfl⟩)
theorem cmp2_cases (m n k l : Int) : ((m < n ∨ (m = n ∧ k < l)) ∧ cmp2 m n k l = -1) ∨ (m = n ∧ k = l ∧ cmp2 m n k l = 0) ∨ ((n < m ∨ (m = n ∧ l < k)) ∧ cmp2 m n k l = 1) := by
  unfold cmp2
  rcases cmp_cases m n with ⟨h, e⟩ | ⟨h, e⟩ | ⟨h, e⟩
  · rw [e, if_neg (by decide)]; exact Or.inl ⟨Or.inl h, rfl⟩
  · rw [e, if_pos rfl]
    rcases cmp_cases k l with ⟨h', e'⟩ | ⟨h', e'⟩ | ⟨h', e'⟩
    · exact Or.inl ⟨Or.inr ⟨h, h'⟩, e'⟩
    · exact Or.inr (Or.inl ⟨h, h', e'⟩)
    · exact Or.inr (Or.inr ⟨Or.inr ⟨h, h'⟩, e'⟩)
  · rw [e, if_neg (by decide)]; exact Or.inr (Or.inr ⟨Or.inl h, rfl⟩)
/-- What Compare answers of two pitches. -/
def cmpP (r : Bool) (s a o s' a' o' : Int) : Int := if r then cmp2 (num s a o) (num s' a' o') (lin s o) (lin s' o') else 0
end Go.Proofs.YtobhmiknlbjmkaaDoor.Pit
