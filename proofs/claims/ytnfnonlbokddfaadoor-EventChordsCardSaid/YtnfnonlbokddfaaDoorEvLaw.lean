/-
  What the laws' walks share: what has not turned since; what right events are, with another value; what goes up and back, in Go's own numbers.
-/
import Derived.Test.YtnfnonlbokddfaaDoorEvR
import Derived.Test.YtnfnonlbokddfaaDoorEvSum
namespace Go.Proofs.YtnfnonlbokddfaaDoor.Evt
open Go.Proofs.YtnfnonlbokddfaaDoor Go.RowKit Go.IntWalk
/-- A right event with another value is right, if that value is. -/
theorem right_with {x : Ev} (h : right x = true) (B D N E : Int) : right { x with b := B, d := D, n := N, e := E } = Val.ok B D N E := by
  unfold right at h
  rw [Bool.and_eq_true] at h
  have e : (wordR x.s && (marksR x.ms && kindR { x with b := B, d := D, n := N, e := E })) = true := h.2
  show (Val.ok B D N E && (wordR x.s && (marksR x.ms && kindR { x with b := B, d := D, n := N, e := E }))) = _
  rw [e, Bool.and_true]
theorem right_ok {x : Ev} (h : right x = true) : Val.ok x.b x.d x.n x.e = true := by
  unfold right at h
  rw [Bool.and_eq_true] at h
  exact h.1
/-- What goes up goes back, by the intervals that Go's negation makes. -/
theorem upE_neg {S H : Int} {x Z : Ev} (h : upE S H x = (Z, 0)) : upE (wrap64 (-S)) (wrap64 (-H)) Z = (x, 0) ∧ { Z with ps := x.ps } = x := by
  obtain ⟨hx, m, hm, he, hr⟩ := upE_ok (S := S) (H := H) (x := x) (by rw [h])
  rw [h] at he
  obtain rfl : Z = { x with ps := m } := (Prod.mk.inj he).1
  refine ⟨?_, rfl⟩
  cases hp : x.ps with
  | nil =>
    rw [hp] at hm
    obtain rfl : m = [] := by simpa [lift] using hm.symm
    rw [upE_right hr]
    simp only [lift]
    rw [← hp]
  | cons p l =>
    rw [hp] at hm
    obtain ⟨y, r, hy, _, _⟩ := lift_cons_some hm
    obtain ⟨b1, b2, b3, b4⟩ := up_bound hy
    have e1 : wrap64 (-S) = -S := by unfold wrap64; omega
    have e2 : wrap64 (-H) = -H := by unfold wrap64; omega
    rw [e1, e2]
    have := upE_back (S := S) (H := H) (x := x) (by rw [h])
    rw [h] at this
    exact this
end Go.Proofs.YtnfnonlbokddfaaDoor.Evt
namespace Go.Proofs.YtnfnonlbokddfaaDoor
open Go.RowKit
open Evt (P3 Ev)
/-- Of what lay in W nothing has turned. -/
def Since (W w : World) : Prop := Below W.heap.size W w
theorem Since.refl (W : World) : Since W W := Below.refl _ _
theorem Since.later {W w1 w2 : World} (h : Since W w1) (hb : Below w1.heap.size w1 w2) : Since W w2 := below_two h hb
theorem Since.set1 {W w1 : World} {B o : Nat} {x : Value} (h : Since W w1) (hB : W.heap.size ≤ B) : Since W (w1.setCell ⟨B, o, none⟩ x) := set1_below h hB
end Go.Proofs.YtnfnonlbokddfaaDoor
