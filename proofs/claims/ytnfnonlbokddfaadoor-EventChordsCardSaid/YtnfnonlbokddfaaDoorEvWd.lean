/-
  The reference's way to tell a right word, in plain words: sign by sign. No program.
-/
import Derived.Test.YtnfnonlbokddfaaDoorEvMath
namespace Go.Proofs.YtnfnonlbokddfaaDoor.Evt
open Go.Proofs.YtnfnonlbokddfaaDoor

/-- How many bytes a lead byte from 128 on asks for; from where on, and how far, the second one may be. -/
def sz (a : Nat) : Nat := if a < 194 then 0 else if a < 224 then 2 else if a < 240 then 3 else if a < 245 then 4 else 0
def lo2 (a : Nat) : Nat := if a = 224 then 160 else if a = 240 then 144 else 128
def hi2 (a : Nat) : Nat := if a = 237 then 159 else if a = 244 then 143 else 191
/-- How many bytes the first sign of a text of n bytes has, that begins with these; 0: none is right. -/
def rnN (n a b1 b2 b3 : Nat) : Nat :=
  if a < 128 then 1 else
  if sz a = 0 ∨ n < sz a then 0 else
  if b1 < lo2 a ∨ hi2 a < b1 then 0 else
  if 3 ≤ sz a ∧ (b2 < 128 ∨ 191 < b2) then 0 else
  if 4 ≤ sz a ∧ (b3 < 128 ∨ 191 < b3) then 0 else sz a
def rn (l : List UInt8) : Nat := if l = [] then 0 else rnN l.length (l.getD 0 0).toNat (l.getD 1 0).toNat (l.getD 2 0).toNat (l.getD 3 0).toNat
theorem tab_is : ∀ a : Fin 256, 128 ≤ a.val → (sz a.val = 0 → ¬ (Lib.firstT a.val % 8 = 2 ∨ Lib.firstT a.val % 8 = 3 ∨ Lib.firstT a.val % 8 = 4)) ∧ (sz a.val ≠ 0 → Lib.firstT a.val % 8 = sz a.val ∧ Lib.accLo (Lib.firstT a.val / 16) = lo2 a.val ∧ Lib.accHi (Lib.firstT a.val / 16) = hi2 a.val) := by decide +kernel
theorem sz_cases (a : Nat) : sz a = 0 ∨ sz a = 2 ∨ sz a = 3 ∨ sz a = 4 := by
  unfold sz
  repeat' split
  all_goals first | omega | simp
theorem lo2_le (a : Nat) : 128 ≤ lo2 a := by
  unfold lo2
  repeat' split
  all_goals omega
theorem check_rn {l : List UInt8} (hne : l ≠ []) (h0 : 128 ≤ (l.getD 0 0).toNat) :
    Lib.checkN l.length (l.getD 1 0).toNat (l.getD 2 0).toNat (l.getD 3 0).toNat (Lib.firstT (l.getD 0 0).toNat % 8) (Lib.accLo (Lib.firstT (l.getD 0 0).toNat / 16)) (Lib.accHi (Lib.firstT (l.getD 0 0).toNat / 16)) = if rn l = 0 then none else some (rn l) := by
  obtain ⟨t1, t2⟩ := tab_is ⟨(l.getD 0 0).toNat, (l.getD 0 0).toNat_lt⟩ h0
  dsimp only at t1 t2
  unfold rn rnN
  rw [if_neg hne, if_neg (show ¬ (l.getD 0 0).toNat < 128 by omega)]
  generalize (l.getD 0 0).toNat = a at *
  generalize (l.getD 1 0).toNat = b1 at *
  generalize (l.getD 2 0).toNat = b2 at *
  generalize (l.getD 3 0).toNat = b3 at *
  generalize l.length = n at *
  rcases sz_cases a with hs | hs
  · have := t1 hs
    rw [hs, if_pos (Or.inl rfl), if_pos rfl]
    unfold Lib.checkN
    rw [if_neg (fun h => this (Or.inl h)), if_neg (fun h => this (Or.inr (Or.inl h))), if_neg (fun h => this (Or.inr (Or.inr h)))]
  · obtain ⟨e1, e2, e3⟩ := t2 (by omega)
    rw [e1, e2, e3]
    generalize lo2 a = L at *
    generalize hi2 a = U at *
    unfold Lib.checkN
    rcases hs with hs | hs | hs <;> rw [hs]
    · by_cases c1 : n < 2 <;> by_cases c2 : b1 < L <;> by_cases c3 : U < b1 <;> simp [c1, c2, c3]
    · by_cases c1 : n < 3 <;> by_cases c2 : b1 < L <;> by_cases c3 : U < b1 <;> by_cases c4 : b2 < 128 <;> by_cases c5 : 191 < b2 <;> simp [c1, c2, c3, c4, c5]
    · by_cases c1 : n < 4 <;> by_cases c2 : b1 < L <;> by_cases c3 : U < b1 <;> by_cases c4 : b2 < 128 <;> by_cases c5 : 191 < b2 <;> by_cases c6 : b3 < 128 <;> by_cases c7 : 191 < b3 <;> simp [c1, c2, c3, c4, c5, c6, c7]
theorem validD_rn {l : List UInt8} (hne : l ≠ []) : Lib.validD l = if rn l = 0 then false else Lib.validD (l.drop (rn l)) := by
  by_cases h0 : (l.getD 0 0).toNat < 128
  · have : rn l = 1 := by unfold rn rnN; rw [if_neg hne, if_pos h0]
    rw [this, if_neg (by decide)]
    cases l with
    | nil => exact absurd rfl hne
    | cons b t => exact Lib.validD_cons b t h0
  · rw [Lib.validD_lead l hne (by omega), check_rn hne (by omega)]
    by_cases h : rn l = 0
    · rw [if_pos h, if_pos h]
    · rw [if_neg h, if_neg h]
theorem byteR_of {c : UInt8} (h : 128 ≤ c.toNat) : byteR c = true := by unfold byteR; rw [decide_eq_true_iff]; omega
theorem take_all {l : List UInt8} {k : Nat} (h : ∀ j, j < k → byteR (l.getD j 0) = true) : (l.take k).all byteR = true := by
  rw [List.all_eq_true]
  intro c hc
  obtain ⟨j, hj⟩ := List.mem_iff_getElem?.1 hc
  rw [List.getElem?_take] at hj
  by_cases hjk : j < k
  · rw [if_pos hjk] at hj
    have := h j hjk
    rw [List.getD_eq_getElem?_getD, hj] at this
    exact this
  · rw [if_neg hjk] at hj; cases hj
theorem rn_bytes {l : List UInt8} (h1 : rn l ≠ 0) (hb : byteR (l.getD 0 0) = true) : (l.take (rn l)).all byteR = true ∧ rn l ≤ l.length := by
  have hne : l ≠ [] := fun e => h1 (by unfold rn; rw [if_pos e])
  have hl : 0 < l.length := List.length_pos_iff.2 hne
  by_cases h0 : (l.getD 0 0).toNat < 128
  · have e : rn l = 1 := by unfold rn rnN; rw [if_neg hne, if_pos h0]
    rw [e]
    exact ⟨take_all (fun j hj => by
      obtain rfl : j = 0 := by omega
      exact hb), hl⟩
  · have hr : rn l ≤ l.length ∧ ∀ j, 1 ≤ j → j < rn l → 128 ≤ (l.getD j 0).toNat := by
      have hlo := lo2_le (l.getD 0 0).toNat
      revert h1
      unfold rn rnN
      rw [if_neg hne, if_neg h0]
      by_cases c1 : sz (l.getD 0 0).toNat = 0 ∨ l.length < sz (l.getD 0 0).toNat
      · rw [if_pos c1]; intro h; exact absurd rfl h
      rw [if_neg c1]
      by_cases c2 : (l.getD 1 0).toNat < lo2 (l.getD 0 0).toNat ∨ hi2 (l.getD 0 0).toNat < (l.getD 1 0).toNat
      · rw [if_pos c2]; intro h; exact absurd rfl h
      rw [if_neg c2]
      by_cases c3 : 3 ≤ sz (l.getD 0 0).toNat ∧ ((l.getD 2 0).toNat < 128 ∨ 191 < (l.getD 2 0).toNat)
      · rw [if_pos c3]; intro h; exact absurd rfl h
      rw [if_neg c3]
      by_cases c4 : 4 ≤ sz (l.getD 0 0).toNat ∧ ((l.getD 3 0).toNat < 128 ∨ 191 < (l.getD 3 0).toNat)
      · rw [if_pos c4]; intro h; exact absurd rfl h
      rw [if_neg c4]
      intro _
      have hs := sz_cases (l.getD 0 0).toNat
      refine ⟨by omega, fun j h1 hj => ?_⟩
      have hj4 : j = 1 ∨ j = 2 ∨ j = 3 := by omega
      rcases hj4 with rfl | rfl | rfl
      · omega
      · omega
      · omega
    refine ⟨take_all fun j hj => ?_, hr.1⟩
    by_cases hj0 : j = 0
    · subst hj0; exact hb
    · exact byteR_of (hr.2 j (by omega) hj)
/-- A right word, as the reference tells it. -/
def plainR (s : ByteArray) (most : Int) : Bool := decide ((s.size : Int) ≤ most) && (Lib.validD s.data.toList && s.data.toList.all byteR)
theorem plain_word (s : ByteArray) : plainR s 40 = wordR s := by
  unfold plainR wordR
  congr 1
  exact decide_eq_decide.2 (by omega)
end Go.Proofs.YtnfnonlbokddfaaDoor.Evt
