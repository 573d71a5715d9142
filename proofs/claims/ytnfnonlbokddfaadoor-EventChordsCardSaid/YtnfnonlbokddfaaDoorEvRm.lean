/-
  The answers that awake asks for, in plain words; Chord as the laws use it.
-/
import Derived.Test.YtnfnonlbokddfaaDoorEvO
import Derived.Test.YtnfnonlbokddfaaDoorEvQ
import Derived.Test.YtnfnonlbokddfaaDoorEvNew
namespace Go.Proofs.YtnfnonlbokddfaaDoor
open Go.RowKit

open Evt (P3 Ev)
theorem aw_chord : Evt.chordE [evC 2 false ⟨#[]⟩, evC 0 true ⟨#[]⟩] = (⟨1, [(0, 0, 4), (2, 0, 4)], [true, false], 2, 0, 0, 0, [], ⟨#[]⟩⟩, 0) := by kernel_rfl
theorem aw_up : Evt.upE 1 2 ⟨1, [(0, 0, 4), (2, 0, 4)], [true, false], 2, 0, 0, 0, [], ⟨#[]⟩⟩ = (⟨1, [(1, 0, 4), (3, 1, 4)], [true, false], 2, 0, 0, 0, [], ⟨#[]⟩⟩, 0) := by kernel_rfl
theorem aw_right : Evt.right ⟨1, [(0, 0, 4), (2, 0, 4)], [true, false], 2, 0, 0, 0, [], ⟨#[]⟩⟩ = true := by kernel_rfl
theorem aw_k2 : Evt.right ⟨2, [], [], 2, 0, 0, 0, [], ⟨#[]⟩⟩ = false := by kernel_rfl
theorem aw_tied : Evt.tied ⟨1, [(0, 0, 4), (2, 0, 4)], [true, false], 2, 0, 0, 0, [], ⟨#[]⟩⟩ = true := by kernel_rfl
theorem aw_tied2 : Evt.tied (evC 0 false ⟨#[]⟩) = false := by kernel_rfl
theorem aw_same : sameE ⟨1, [(0, 0, 4), (2, 0, 4)], [true, false], 2, 0, 0, 0, [], ⟨#[]⟩⟩ ⟨1, [(1, 0, 4), (3, 1, 4)], [true, false], 2, 0, 0, 0, [], ⟨#[]⟩⟩ = false := by kernel_rfl
theorem aw_N : Val.lenN 2 0 0 0 = 1 := by kernel_rfl
theorem aw_D : Val.lenD 2 0 0 0 = 4 := by kernel_rfl
theorem aw_E : Val.lenE 2 0 0 0 = 0 := by kernel_rfl
theorem chord_is {ys : List EM} {x : Ev} {e : Int} (hx : Evt.chordE (ys.map Prod.fst) = (x, e)) (v : Value) (w : World) (h : Evs w v ys) (hl : ys.length ≤ 100000) (hR : Ready w) : Calls Tryd.prog 18 #[v] w (EvRes (x, e) w) := by rw [← hx]; exact chord_any v ys w h hl hR
end Go.Proofs.YtnfnonlbokddfaaDoor
