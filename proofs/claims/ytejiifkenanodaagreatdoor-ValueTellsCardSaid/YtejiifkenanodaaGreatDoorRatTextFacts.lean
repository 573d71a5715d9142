/-
  What RatioText wants of texts: what is shown is read back; what is read is shown as it was.
-/
import Derived.Test.YtejiifkenanodaaGreatDoorRatFacts
namespace Go.Proofs.YtejiifkenanodaaGreatDoor
open Go.Lib

/-- The bytes of digits. -/
theorem decDigits_eq' (u : Nat) : decDigits u = if u < 10 then [UInt8.ofNat (48 + u)] else decDigits (u / 10) ++ [UInt8.ofNat (48 + u % 10)] := by
  rw [decDigits]; split <;> rfl
theorem digit_toNat {k : Nat} (h : k < 10) : (UInt8.ofNat (48 + k)).toNat = 48 + k := by
  rw [UInt8.toNat_ofNat']; omega
theorem decDigits_digit (u : Nat) : ∀ c ∈ decDigits u, 48 ≤ c.toNat ∧ c.toNat ≤ 57 := by
  induction u using Nat.strongRecOn with
  | _ u ih =>
    intro c hc
    rw [decDigits_eq'] at hc
    split at hc
    · rename_i h
      simp only [List.mem_singleton] at hc
      subst hc
      rw [digit_toNat h]; omega
    · rename_i h
      rw [List.mem_append] at hc
      rcases hc with hc | hc
      · exact ih (u / 10) (by omega) c hc
      · simp only [List.mem_singleton] at hc
        subst hc
        rw [digit_toNat (by omega)]; omega
theorem decDigits_ne (u : Nat) : decDigits u ≠ [] := by
  rw [decDigits_eq']; split <;> simp
/-- Digits that begin with 0 are 0's. -/
theorem decDigits_head {u : Nat} {r : List UInt8} (h : decDigits u = 48 :: r) : u = 0 ∧ r = [] := by
  induction u using Nat.strongRecOn generalizing r with
  | _ u ih =>
    rw [decDigits_eq'] at h
    split at h
    · rename_i hu
      simp only [List.cons.injEq] at h
      have := congrArg UInt8.toNat h.1
      rw [digit_toNat hu] at this
      have e : (48 : UInt8).toNat = 48 := rfl
      exact ⟨by omega, h.2.symm⟩
    · rename_i hu
      cases hd : decDigits (u / 10) with
      | nil => exact absurd hd (decDigits_ne _)
      | cons c t =>
        rw [hd] at h
        simp only [List.cons_append, List.cons.injEq] at h
        have := (ih (u / 10) (by omega) (r := t) (by rw [hd, h.1])).1
        omega
theorem itoa_bytes (n : Int) : ∀ c ∈ itoa n, c.toNat = 45 ∨ (48 ≤ c.toNat ∧ c.toNat ≤ 57) := by
  intro c hc
  unfold itoa at hc
  split at hc
  · rcases List.mem_cons.1 hc with h | h
    · left; subst h; rfl
    · right; exact decDigits_digit _ c h
  · right; exact decDigits_digit _ c hc
theorem itoa_no47 (n : Int) : (47 : UInt8) ∉ itoa n := fun h => by
  have := itoa_bytes n 47 h
  have e : (47 : UInt8).toNat = 47 := rfl
  omega
theorem itoa_ne (n : Int) : itoa n ≠ [] := by
  unfold itoa; split
  · simp
  · exact decDigits_ne _
theorem itoa_last (n : Int) (h : itoa n ≠ []) : 48 ≤ ((itoa n).getLast h).toNat ∧ ((itoa n).getLast h).toNat ≤ 57 := by
  have key : ∀ (l : List UInt8) (h : l ≠ []), (∃ u, l = decDigits u ∨ l = 45 :: decDigits u) → 48 ≤ (l.getLast h).toNat ∧ (l.getLast h).toNat ≤ 57 := by
    rintro l h ⟨u, rfl | rfl⟩
    · exact decDigits_digit u _ (List.getLast_mem h)
    · rw [List.getLast_cons (decDigits_ne u)]
      exact decDigits_digit u _ (List.getLast_mem (decDigits_ne u))
  refine key _ h ?_
  unfold itoa
  split
  · exact ⟨_, Or.inr rfl⟩
  · exact ⟨_, Or.inl rfl⟩

/-- Digits are read back. -/
theorem parse_append (l1 l2 : List UInt8) : ∀ (acc a : Nat), parseUint10 acc l1 = .ok a → parseUint10 acc (l1 ++ l2) = parseUint10 a l2 := by
  induction l1 with
  | nil => intro acc a h; simp only [parseUint10, NumEnd.ok.injEq] at h; subst h; rfl
  | cons c r ih =>
    intro acc a h
    simp only [parseUint10, List.cons_append] at h ⊢
    by_cases h1 : 48 ≤ c.toNat ∧ c.toNat ≤ 57
    · rw [if_pos h1] at h ⊢
      by_cases h2 : 1844674407370955162 ≤ acc
      · rw [if_pos h2] at h; cases h
      · rw [if_neg h2] at h ⊢
        by_cases h3 : 18446744073709551616 ≤ acc * 10 + (c.toNat - 48)
        · rw [if_pos h3] at h; cases h
        · rw [if_neg h3] at h ⊢
          exact ih _ _ h
    · rw [if_neg h1] at h; cases h
theorem parse_digits (u : Nat) (hu : u ≤ 1000000000) : parseUint10 0 (decDigits u) = .ok u := by
  induction u using Nat.strongRecOn with
  | _ u ih =>
    rw [decDigits_eq']
    have step : ∀ (acc k : Nat), k < 10 → acc ≤ 1000000000 → parseUint10 acc [UInt8.ofNat (48 + k)] = .ok (acc * 10 + k) := by
      intro acc k hk ha
      simp only [parseUint10, digit_toNat hk]
      rw [if_pos (by omega), if_neg (by omega), if_neg (by omega)]
      congr 1
      omega
    split
    · rename_i h
      rw [step 0 u h (by omega)]; congr 1; omega
    · rename_i h
      rw [parse_append _ _ 0 (u / 10) (ih (u / 10) (by omega) (by omega)), step _ _ (by omega) (by omega)]
      congr 1; omega
theorem atoi_itoa {n : Int} (h0 : -1000000000 ≤ n) (h1 : n ≤ 1000000000) : atoiAll (itoa n) = .ok n := by
  unfold itoa
  by_cases hn : n < 0
  · rw [if_pos hn]
    unfold atoiAll
    have e : (45 : UInt8).toNat = 45 := rfl
    simp only [e]
    rw [if_pos (Or.inr trivial)]
    unfold parseMag
    rw [if_neg (decDigits_ne _), parse_digits _ (by omega)]
    simp only [not_true_eq_false, false_and, if_false, true_and]
    rw [if_neg (by omega)]
    simp only [if_true]
    congr 1; omega
  · rw [if_neg hn]
    cases hd : decDigits n.toNat with
    | nil => exact absurd hd (decDigits_ne _)
    | cons c r =>
      have hc := decDigits_digit n.toNat c (by rw [hd]; simp)
      unfold atoiAll
      simp only
      rw [if_neg (by omega), ← hd]
      unfold parseMag
      rw [if_neg (decDigits_ne _), parse_digits _ (by omega)]
      have h45 : ¬ c.toNat = 45 := by omega
      simp only [h45, not_false_eq_true, true_and, false_and, if_false]
      rw [if_neg (by omega)]
      congr 1; omega

/-- A text is cut at its first stroke. -/
theorem index_none (l : List UInt8) (h : (47 : UInt8) ∉ l) : index l [47] = -1 := by
  induction l with
  | nil => rfl
  | cons b l ih =>
    have hb : ¬ (47 : UInt8) = b := fun e => h (by rw [e]; simp)
    have := ih (fun hm => h (List.mem_cons_of_mem _ hm))
    simp [index, List.isPrefixOf, hb, this]
theorem index_at (l r : List UInt8) (h : (47 : UInt8) ∉ l) : index (l ++ 47 :: r) [47] = l.length := by
  induction l with
  | nil => simp [index, List.isPrefixOf]
  | cons b l ih =>
    have hb : ¬ (47 : UInt8) = b := fun e => h (by rw [e]; simp)
    have := ih (fun hm => h (List.mem_cons_of_mem _ hm))
    simp only [List.cons_append, index, List.isPrefixOf]
    rw [this]
    simp [hb]
end Go.Proofs.YtejiifkenanodaaGreatDoor
