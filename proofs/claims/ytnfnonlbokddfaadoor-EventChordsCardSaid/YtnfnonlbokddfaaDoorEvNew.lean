/-
  Lists of events, newly laid in a block.
-/
import Derived.Test.YtnfnonlbokddfaaDoorEvN
namespace Go.Proofs.YtnfnonlbokddfaaDoor
open Go.RowKit
open Evt (P3 Ev)
theorem cell_new (w : World) (cs : Array Value) (t : TypeId) (j : Nat) : (w.alloc (.cells cs t)).cell? ⟨w.heap.size, j, none⟩ = cs[j]? := by
  have h := (MapKept.heap_alloc w (.cells cs t)).1
  simp only [World.cell?, h]
  simp
theorem encE_len : ∀ y, (encE y).length = 9 := fun _ => rfl
theorem evs_new {w : World} {ys : List EM} (hl : ys.length ≤ 140737488355328) (h : ∀ y ∈ ys, EvR w y.2.1 y.2.2.1 y.2.2.2 y.1) : Evs (w.alloc (.cells (ys.flatMap encE).toArray 28)) (.slice (some ⟨w.heap.size, 0, none⟩) ys.length ys.length) ys := by
  refine ⟨⟨_, ys.length, rfl, hl, Nat.le_refl _, fun i y hi => ⟨w.heap.size, 0, rfl, fun j u hu => ?_⟩⟩, fun y hy => (h y hy).later ((Below.refl _ _).alloc (Nat.le_refl _) _)⟩
  have hj : j < 9 := by rw [← encE_len y]; exact (List.getElem?_eq_some_iff.1 hu).1
  rw [cell_new, Nat.zero_add, List.getElem?_toArray, flat_at encE_len ys i y j hi hj]
  exact hu
end Go.Proofs.YtnfnonlbokddfaaDoor
