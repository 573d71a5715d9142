/-
  The contracts of pick and Ratio: of raw numbers, a right ratio.
-/
import Derived.Test.YtejiifkenanodaaGreatDoorRatI
namespace Go.Proofs.YtejiifkenanodaaGreatDoor
open Go.RowKit

/-- Which of n things a raw number speaks of. -/
def pickS (c n : Int) : Int := (if c < 0 then -(c + 1) else c) % n
theorem pickS_bounds (c : Int) {n : Int} (h : 1 ≤ n) : 0 ≤ pickS c n ∧ pickS c n < n := by
  unfold pickS; exact ⟨Int.emod_nonneg _ (by omega), Int.emod_lt_of_pos _ (by omega)⟩

theorem pick_neg {c : Int} (h : Rat.I64 c) (hc : c < 0) : wrap64 (-wrap64 (c + 1)) = -(c + 1) := by unfold Rat.I64 at h; unfold wrap64; omega
theorem pick_in {c : Int} (h : Rat.I64 c) (hc : c < 0) : 0 ≤ -(c + 1) ∧ Rat.I64 (-(c + 1)) := by unfold Rat.I64 at *; omega

theorem mod_walk {x n : Int} (_h : Rat.I64 x) (h0 : 0 ≤ x) (hn : 1 ≤ n) (hn2 : n ≤ 2000001) : wrap64 (x.tmod n) = x % n := by
  rw [Int.tmod_eq_emod_of_nonneg h0]
  have a := Int.emod_nonneg x (show n ≠ 0 by omega)
  have b := Int.emod_lt_of_pos x (show 0 < n by omega)
  unfold wrap64; omega

theorem stored_held_far {w : World} {B b o : Nat} {x y : Value} (h : b ≠ B) (hc : w.cell? ⟨b, o, none⟩ = some (heldAt w ⟨b, o, none⟩)) :
    ((w.setCell ⟨B, 0, none⟩ x).setCell ⟨B, 1, none⟩ y).cell? ⟨b, o, none⟩ = some (heldAt ((w.setCell ⟨B, 0, none⟩ x).setCell ⟨B, 1, none⟩ y) ⟨b, o, none⟩) := held_of (stored_far h hc)

def RatPost (w : World) (e : Ending) (w' : World) : Prop := ∃ n d, Rat.IsRight n d ∧ e = .returned (rt n d) ∧ Below w.heap.size w w'

theorem of_small {n d : Int} (h1 : 1 ≤ d) (h2 : d ≤ 1000000) (h3 : -1000000 ≤ n) (h4 : n ≤ 1000000) : Rat.ofE n d = 0 := by
  have hd : d ≠ 0 := by omega
  have hM := Rat.M_eq
  have t : Rat.top n d ≤ 1000000 := by
    unfold Rat.top
    have := Nat.div_le_self n.natAbs (Nat.gcd n.natAbs d.natAbs)
    omega
  have b : Rat.bot n d ≤ 1000000 := by
    unfold Rat.bot
    have := Nat.div_le_self d.natAbs (Nat.gcd n.natAbs d.natAbs)
    omega
  have hb : Rat.big n d = false := by unfold Rat.big; simp; omega
  unfold Rat.ofE; rw [if_neg hd, hb]; rfl

end Go.Proofs.YtejiifkenanodaaGreatDoor
