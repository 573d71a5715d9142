/-
  RatioOrder holds: the law's walk: two comparisons.
-/
import Derived.Test.YtgndmaihhkhnpaaDoorRatFacts
namespace Go.Proofs.YtgndmaihhkhnpaaDoor
open Go.RowKit

theorem cmp_zero (a b : Int) (w : World) : Calls Tryd.prog 24 #[rt a b, rt 0 0] w fun e w' => e = .returned (.int .i64 0) ∧ Below w.heap.size w w' := by
  have h := compare_any a b 0 0 w
  rw [show Rat.right 0 0 = false from by decide +kernel, Bool.and_false] at h
  exact h
theorem cmp_two (a b : Int) (w : World) : Calls Tryd.prog 24 #[rt 2 4, rt a b] w fun e w' => e = .returned (.int .i64 0) ∧ Below w.heap.size w w' := by
  have h := compare_any 2 4 a b w
  rw [show Rat.right 2 4 = false from by decide +kernel, Bool.false_and] at h
  exact h
end Go.Proofs.YtgndmaihhkhnpaaDoor
