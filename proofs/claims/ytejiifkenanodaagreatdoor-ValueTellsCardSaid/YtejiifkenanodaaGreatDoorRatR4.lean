/-
  The contract of the reference's Read: it answers what the program's Read answers.
-/
import Derived.Test.YtejiifkenanodaaGreatDoorRatR3
namespace Go.Proofs.YtejiifkenanodaaGreatDoor
open Go.RowKit

theorem nDigits_le : ∀ (k u : Nat), u < 10 ^ (k + 1) → Lib.nDigits u ≤ k + 1
  | 0, u, h => by rw [Lib.nDigits_small (by simpa using h)]; exact Nat.le_refl _
  | k + 1, u, h => by
    by_cases hu : u < 10
    · rw [Lib.nDigits_small hu]; omega
    · rw [Lib.nDigits_big hu]
      have := nDigits_le k (u / 10) (by rw [Nat.pow_succ] at h; omega)
      omega
theorem valN_digits (u : Nat) (hu : u ≤ 1000000000) : valN (Lib.decDigits u) = u := by
  induction u using Nat.strongRecOn with
  | _ u ih =>
    rw [decDigits_eq']
    split
    · rename_i h
      show stepN 0 _ = _
      unfold stepN wrap64
      rw [digit_toNat h]; omega
    · rename_i h
      rw [valN_snoc, ih (u / 10) (by omega) (by omega)]
      unfold stepN wrap64
      rw [digit_toNat (by omega)]; omega
theorem dig_all (u : Nat) : ∀ c ∈ Lib.decDigits u, isDig c = true := fun c hc => by
  have := decDigits_digit u c hc
  unfold isDig; simp; omega
theorem part_digits (u : Nat) (hu : u ≤ 1000000000) : readPart (Lib.decDigits u) = some (u : Int) := by
  have h1 : 1 ≤ (Lib.decDigits u).length := by
    cases h : Lib.decDigits u with
    | nil => exact absurd h (decDigits_ne u)
    | cons _ _ => simp
  have h2 : (Lib.decDigits u).length ≤ 19 := by
    rw [Lib.decDigits_length]
    have := nDigits_le 9 u (by omega)
    omega
  rw [readPart_ok h1 h2 (dig_all u), valN_digits u hu]
theorem readNum_itoa {n : Int} (h0 : -1000000000 ≤ n) (h1 : n ≤ 1000000000) : readNum (Lib.itoa n) = (n, true) := by
  by_cases hn : n < 0
  · have e : Lib.itoa n = 45 :: Lib.decDigits n.natAbs := by unfold Lib.itoa; rw [if_pos hn]
    have r : readNum (45 :: Lib.decDigits n.natAbs) = readNeg (45 :: Lib.decDigits n.natAbs) (Lib.decDigits n.natAbs) := rfl
    rw [e, r]
    unfold readNeg
    rw [part_digits _ (by omega)]
    have hw : wrap64 (-(n.natAbs : Int)) = n := by unfold wrap64; omega
    simp only [hw]
    rw [e]; simp
  · have e : Lib.itoa n = Lib.decDigits n.toNat := by unfold Lib.itoa; rw [if_neg hn]
    have hv : ((n.toNat : Nat) : Int) = n := by omega
    rw [e]
    cases hd : Lib.decDigits n.toNat with
    | nil => exact absurd hd (decDigits_ne _)
    | cons c r =>
      have hc := decDigits_digit n.toNat c (by rw [hd]; simp)
      have q : readNum (c :: r) = readPos (c :: r) := by
        show (if c.toNat = 45 then _ else _) = _
        rw [if_neg (by omega)]
      rw [q, ← hd]
      unfold readPos
      rw [part_digits _ (by omega)]
      simp only [hv]
      rw [e]; simp
theorem readNum_i64 (l : List UInt8) : Rat.I64 (readNum l).1 := by
  have z : Rat.I64 0 := by unfold Rat.I64; omega
  unfold readNum
  split
  · exact z
  · split
    · unfold readNeg; split
      · exact i64_wrap64 _
      · exact z
    · unfold readPos readPart; split
      · rename_i v hv
        split at hv
        · cases hv
        · split at hv
          · simp only [Option.some.injEq] at hv; subst hv; exact valN_i64 _
          · cases hv
      · exact z

/-- What the reference's Read answers. -/
def low2 (b : List UInt8) (two : Bool) : Int × Bool := if two then readNum b else (1, true)
end Go.Proofs.YtejiifkenanodaaGreatDoor
