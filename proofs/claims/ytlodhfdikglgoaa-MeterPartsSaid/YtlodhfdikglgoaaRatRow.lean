/-
  The bounds of right ratios.
-/
import Derived.Test.YtlodhfdikglgoaaRatG
namespace Go.Proofs.Ytlodhfdikglgoaa
theorem right_bounds {n d : Int} (h : Rat.IsRight n d) : 1 ≤ d ∧ d ≤ 1000000000 ∧ -1000000000 ≤ n ∧ n ≤ 1000000000 := by
  have hM := Rat.M_eq
  exact ⟨h.d1, by have := h.dM; omega, by have := h.n0; omega, by have := h.nM; omega⟩
theorem right_true {n d : Int} (h : Rat.IsRight n d) : Rat.right n d = true := (Rat.right_iff _ _).2 h
end Go.Proofs.Ytlodhfdikglgoaa
