/-
  Sums, differences, products and order of lowered ratios, by the numbers that they were lowered from.
-/
import Derived.Test.YtejiifkenanodaaGreatDoorValMath
import Derived.Test.YtejiifkenanodaaGreatDoorRatFacts
open Go.Proofs.YtejiifkenanodaaGreatDoor.Rat
namespace Go.Proofs.YtejiifkenanodaaGreatDoor.Val

theorem cancel3 {X Y m k q : Int} (hm : 1 ≤ m) (hk : 1 ≤ k) (hq : 1 ≤ q) (h : X * (m * k * q) = Y * (m * k * q)) : X = Y := by
  have h1 : m * k * q ≠ 0 := Int.mul_ne_zero (Int.mul_ne_zero (by omega) (by omega)) (by omega)
  exact Int.eq_of_mul_eq_mul_right h1 h
theorem add_q {a m c k p q : Int} (h1 : Small a m) (h2 : Small c k) (h3 : Small p q) (e : p * (m * k) = (a * k + c * m) * q) :
    binN (right (ofN a m) (ofD a m) && right (ofN c k) (ofD c k)) (ofN a m * ofD c k + ofN c k * ofD a m) (ofD a m * ofD c k) = ofN p q ∧ binD (right (ofN a m) (ofD a m) && right (ofN c k) (ofD c k)) (ofN a m * ofD c k + ofN c k * ofD a m) (ofD a m * ofD c k) = ofD p q ∧ binE (right (ofN a m) (ofD a m) && right (ofN c k) (ofD c k)) (ofN a m * ofD c k + ofN c k * ofD a m) (ofD a m * ofD c k) = 0 := by
  refine bin_eq h1.right h2.right (mul_ne h1.right.ne h2.right.ne) h3.right (cancel3 h1.d0 h2.d0 h3.d0 ?_)
  have x1 := h1.eqn
  have x2 := h2.eqn
  have x3 := h3.eqn
  generalize ofN a m = N1 at *
  generalize ofD a m = D1 at *
  generalize ofN c k = N2 at *
  generalize ofD c k = D2 at *
  generalize ofN p q = N at *
  generalize ofD p q = D at *
  have e2 : p * D * (m * k) * (D1 * D2) = (a * k + c * m) * q * D * (D1 * D2) := by rw [← e]; grind
  have e3 : (a * k + c * m) * (D1 * D2) = (N1 * D2 + N2 * D1) * (m * k) := by
    have : (a * k + c * m) * (D1 * D2) = (a * D1) * (k * D2) + (c * D2) * (m * D1) := by grind
    rw [this, ← x1, ← x2]; grind
  have e4 : N * (D1 * D2) * (m * k * q) = p * D * (m * k) * (D1 * D2) := by rw [← x3]; grind
  rw [e4, e2]
  have : (a * k + c * m) * q * D * (D1 * D2) = ((a * k + c * m) * (D1 * D2)) * (q * D) := by grind
  rw [this, e3]; grind
theorem sub_q {a m c k p q : Int} (h1 : Small a m) (h2 : Small c k) (h3 : Small p q) (e : p * (m * k) = (a * k - c * m) * q) :
    binN (right (ofN a m) (ofD a m) && right (ofN c k) (ofD c k)) (ofN a m * ofD c k - ofN c k * ofD a m) (ofD a m * ofD c k) = ofN p q ∧ binD (right (ofN a m) (ofD a m) && right (ofN c k) (ofD c k)) (ofN a m * ofD c k - ofN c k * ofD a m) (ofD a m * ofD c k) = ofD p q ∧ binE (right (ofN a m) (ofD a m) && right (ofN c k) (ofD c k)) (ofN a m * ofD c k - ofN c k * ofD a m) (ofD a m * ofD c k) = 0 := by
  refine bin_eq h1.right h2.right (mul_ne h1.right.ne h2.right.ne) h3.right (cancel3 h1.d0 h2.d0 h3.d0 ?_)
  have x1 := h1.eqn
  have x2 := h2.eqn
  have x3 := h3.eqn
  generalize ofN a m = N1 at *
  generalize ofD a m = D1 at *
  generalize ofN c k = N2 at *
  generalize ofD c k = D2 at *
  generalize ofN p q = N at *
  generalize ofD p q = D at *
  have e2 : p * D * (m * k) * (D1 * D2) = (a * k - c * m) * q * D * (D1 * D2) := by rw [← e]; grind
  have e3 : (a * k - c * m) * (D1 * D2) = (N1 * D2 - N2 * D1) * (m * k) := by
    have : (a * k - c * m) * (D1 * D2) = (a * D1) * (k * D2) - (c * D2) * (m * D1) := by grind
    rw [this, ← x1, ← x2]; grind
  have e4 : N * (D1 * D2) * (m * k * q) = p * D * (m * k) * (D1 * D2) := by rw [← x3]; grind
  rw [e4, e2]
  have : (a * k - c * m) * q * D * (D1 * D2) = ((a * k - c * m) * (D1 * D2)) * (q * D) := by grind
  rw [this, e3]; grind
theorem mul_q {a m c k p q : Int} (h1 : Small a m) (h2 : Small c k) (h3 : Small p q) (e : p * (m * k) = (a * c) * q) :
    binN (right (ofN a m) (ofD a m) && right (ofN c k) (ofD c k)) (ofN a m * ofN c k) (ofD a m * ofD c k) = ofN p q ∧ binD (right (ofN a m) (ofD a m) && right (ofN c k) (ofD c k)) (ofN a m * ofN c k) (ofD a m * ofD c k) = ofD p q ∧ binE (right (ofN a m) (ofD a m) && right (ofN c k) (ofD c k)) (ofN a m * ofN c k) (ofD a m * ofD c k) = 0 := by
  refine bin_eq h1.right h2.right (mul_ne h1.right.ne h2.right.ne) h3.right (cancel3 h1.d0 h2.d0 h3.d0 ?_)
  have x1 := h1.eqn
  have x2 := h2.eqn
  have x3 := h3.eqn
  generalize ofN a m = N1 at *
  generalize ofD a m = D1 at *
  generalize ofN c k = N2 at *
  generalize ofD c k = D2 at *
  generalize ofN p q = N at *
  generalize ofD p q = D at *
  have e2 : p * D * (m * k) * (D1 * D2) = (a * c) * q * D * (D1 * D2) := by rw [← e]; grind
  have e3 : (a * c) * (D1 * D2) = (N1 * N2) * (m * k) := by
    have : (a * c) * (D1 * D2) = (a * D1) * (c * D2) := by grind
    rw [this, ← x1, ← x2]; grind
  have e4 : N * (D1 * D2) * (m * k * q) = p * D * (m * k) * (D1 * D2) := by rw [← x3]; grind
  rw [e4, e2]
  have : (a * c) * q * D * (D1 * D2) = ((a * c) * (D1 * D2)) * (q * D) := by grind
  rw [this, e3]; grind
theorem cmp_q {a m c k : Int} (h1 : Small a m) (h2 : Small c k) : cmpV (right (ofN a m) (ofD a m) && right (ofN c k) (ofD c k)) (ofN a m * ofD c k - ofN c k * ofD a m) = sgn (a * k - c * m) := by
  rw [cmp_yes h1.right h2.right]
  have x1 := h1.eqn
  have x2 := h2.eqn
  have d1 := h1.right.d1
  have d2 := h2.right.d1
  refine sgn_of_mul (k := m * k) (m := ofD a m * ofD c k) (Int.mul_pos (by have := h1.d0; omega) (by have := h2.d0; omega)) (Int.mul_pos (by omega) (by omega)) ?_
  generalize ofN a m = N1 at *
  generalize ofD a m = D1 at *
  generalize ofN c k = N2 at *
  generalize ofD c k = D2 at *
  have : (a * k - c * m) * (D1 * D2) = (a * D1) * (k * D2) - (c * D2) * (m * D1) := by grind
  rw [this, ← x1, ← x2]; grind
/-- A right value's length. -/
theorem len_small {b d n e : Int} (h : ok b d n e = true) : Small (lnN b d n e) (lnD n) ∧ lenN b d n e = ofN (lnN b d n e) (lnD n) ∧ lenD b d n e = ofD (lnN b d n e) (lnD n) := by
  have := ln_bounds h
  refine ⟨⟨by omega, by omega, by omega, by omega⟩, ?_, ?_⟩
  · unfold lenN; rw [h]; rfl
  · unfold lenD; rw [h]; rfl
end Go.Proofs.YtejiifkenanodaaGreatDoor.Val
