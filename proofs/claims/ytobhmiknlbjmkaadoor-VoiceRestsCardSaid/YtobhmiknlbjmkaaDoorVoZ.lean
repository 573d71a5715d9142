/-
  The contract of the laws' examples.
-/
import Derived.Test.YtobhmiknlbjmkaaDoorVoLex
import Derived.Deep.CutBlock
import Derived.Deep.DeepCutAuto
namespace Go.Proofs.YtobhmiknlbjmkaaDoor
open Go.RowKit
open Evt (P3 Ev)

/-- A voice in a box. -/
def VoAt (es : List Ev) (W : World) (p : Value) (wx : World) : Prop := ∃ (B : Nat) (v : Value) (ys : List EM), p = .pointer (some ⟨B, 0, none⟩) ∧ wx.cell? ⟨B, 0, none⟩ = some v ∧ Evs wx v ys ∧ ys.map Prod.fst = es ∧ Below W.heap.size W wx
theorem voAt_of {W W2 : World} {v v1 v2 v3 v4 v5 v6 : Value} {B D : Nat} (h : Evs W v [(((⟨1, [(0, 0, 4), (2, 0, 4)], [true, false], 2, 0, 0, 0, [3], ⟨#[]⟩⟩ : Ev), v1, v2, v3) : EM), ((⟨1, [(0, 0, 4), (4, 0, 4)], [false, false], 2, 0, 0, 0, [], ⟨#[]⟩⟩ : Ev), v4, v5, v6)]) (hb : Below W.heap.size W W2) (bx : W2.heap[B]? = some (.cells #[.slice (some ⟨D, 0, none⟩) 2 2] 26 (0, 0))) (ev : W2.heap[D]? = some (.cells #[.int .i64 1, v1, v2, .int .i64 2, .int .i64 0, .int .i64 0, .int .i64 0, v3, .string ⟨#[]⟩, .int .i64 0, .slice none 0 0, .slice none 0 0, .int .i64 2, .int .i64 0, .int .i64 0, .int .i64 0, .slice none 0 0, .string ⟨#[]⟩] 51 (0, 0))) : VoAt [(⟨1, [(0, 0, 4), (2, 0, 4)], [true, false], 2, 0, 0, 0, [3], ⟨#[]⟩⟩ : Ev), (⟨0, [], [], 2, 0, 0, 0, [], ⟨#[]⟩⟩ : Ev)] W (.pointer (some ⟨B, 0, none⟩)) W2 :=
  ⟨B, _, [(((⟨1, [(0, 0, 4), (2, 0, 4)], [true, false], 2, 0, 0, 0, [3], ⟨#[]⟩⟩ : Ev), v1, v2, v3) : EM), ((⟨0, [], [], 2, 0, 0, 0, [], ⟨#[]⟩⟩ : Ev), .slice none 0 0, .slice none 0 0, .slice none 0 0)], rfl, cell_of_cells bx (j := 0) rfl, ⟨sl_block (enc := encE) encE_len [(((⟨1, [(0, 0, 4), (2, 0, 4)], [true, false], 2, 0, 0, 0, [3], ⟨#[]⟩⟩ : Ev), v1, v2, v3) : EM), ((⟨0, [], [], 2, 0, 0, 0, [], ⟨#[]⟩⟩ : Ev), .slice none 0 0, .slice none 0 0, .slice none 0 0)] (by simp) ev, fun y hy => by
    rcases List.mem_cons.1 hy with rfl | hy
    · exact (h.each _ List.mem_cons_self).later hb
    · rcases List.mem_cons.1 hy with rfl | hy
      · exact ⟨Sl.none _ _ _, Sl.none _ _ _, Sl.none _ _ _, by show (0 : Nat) ≤ _; omega⟩
      · cases hy⟩, rfl, hb⟩

set_option maxRecDepth 100000 in
set_option maxHeartbeats 40000000 in
theorem examples_any (w : World) (hR : Spl.Vars w) :
    Calls Tryd.prog 10 #[] w fun ed w' => ed = .returned (.bool true) ∧ Below w.heap.size w w' := by
  have hgR := guardR
  have hgV := guardV
  have heR := eql_rt
  have hsR := eqR_self
  have hsP := eqP_self
  have hgP := guardP
  have heP := eql_pt
  have heV := eql_vl
  have hsV := eqV_self
  go_enter Tryd.func10, Tryd.ntmps10
  go_upto_region 6 with fail
  have hB1 : Below w.heap.size w (((((((((((w.alloc (.cells #[.int .i64 0, .int .i64 0, .int .i64 4] 41)).alloc (.cells #[.int .i64 2, .int .i64 0, .int .i64 4] 41)).alloc (.cells #[.int .i64 4, .int .i64 0, .int .i64 4] 41)).alloc (.cells #[.int .i64 2, .int .i64 0, .int .i64 0, .int .i64 0] 49)).alloc (.cells #[.int .i64 0, .int .i64 0, .int .i64 4, .int .i64 2, .int .i64 0, .int .i64 4] 41)).alloc (.cells #[.bool true, .bool false] 4)).alloc (.cells #[.int .i64 3] 3)).alloc (.cells #[.int .i64 0, .int .i64 0, .int .i64 4, .int .i64 4, .int .i64 0, .int .i64 4] 41)).alloc (.cells #[.bool false, .bool false] 4)).alloc (.cells #[.int .i64 1, .slice (some ⟨w.heap.size + 1 + 1 + 1 + 1, 0, none⟩) 2 2, .slice (some ⟨w.heap.size + 1 + 1 + 1 + 1 + 1, 0, none⟩) 2 2, .int .i64 2, .int .i64 0, .int .i64 0, .int .i64 0, .slice (some ⟨w.heap.size + 1 + 1 + 1 + 1 + 1 + 1, 0, none⟩) 1 1, .string ⟨#[]⟩, .int .i64 1, .slice (some ⟨w.heap.size + 1 + 1 + 1 + 1 + 1 + 1 + 1, 0, none⟩) 2 2, .slice (some ⟨w.heap.size + 1 + 1 + 1 + 1 + 1 + 1 + 1 + 1, 0, none⟩) 2 2, .int .i64 2, .int .i64 0, .int .i64 0, .int .i64 0, .slice none 0 0, .string ⟨#[]⟩] 51)).alloc (.cells #[.slice (some ⟨w.heap.size + 1 + 1 + 1 + 1 + 1 + 1 + 1 + 1 + 1, 0, none⟩) 2 2] 26)) := by repeat (first | exact Below.refl _ _ | refine Below.alloc ?_ (by simp <;> omega) _)
  have t0 : (((((((((((w.alloc (.cells #[.int .i64 0, .int .i64 0, .int .i64 4] 41)).alloc (.cells #[.int .i64 2, .int .i64 0, .int .i64 4] 41)).alloc (.cells #[.int .i64 4, .int .i64 0, .int .i64 4] 41)).alloc (.cells #[.int .i64 2, .int .i64 0, .int .i64 0, .int .i64 0] 49)).alloc (.cells #[.int .i64 0, .int .i64 0, .int .i64 4, .int .i64 2, .int .i64 0, .int .i64 4] 41)).alloc (.cells #[.bool true, .bool false] 4)).alloc (.cells #[.int .i64 3] 3)).alloc (.cells #[.int .i64 0, .int .i64 0, .int .i64 4, .int .i64 4, .int .i64 0, .int .i64 4] 41)).alloc (.cells #[.bool false, .bool false] 4)).alloc (.cells #[.int .i64 1, .slice (some ⟨w.heap.size + 1 + 1 + 1 + 1, 0, none⟩) 2 2, .slice (some ⟨w.heap.size + 1 + 1 + 1 + 1 + 1, 0, none⟩) 2 2, .int .i64 2, .int .i64 0, .int .i64 0, .int .i64 0, .slice (some ⟨w.heap.size + 1 + 1 + 1 + 1 + 1 + 1, 0, none⟩) 1 1, .string ⟨#[]⟩, .int .i64 1, .slice (some ⟨w.heap.size + 1 + 1 + 1 + 1 + 1 + 1 + 1, 0, none⟩) 2 2, .slice (some ⟨w.heap.size + 1 + 1 + 1 + 1 + 1 + 1 + 1 + 1, 0, none⟩) 2 2, .int .i64 2, .int .i64 0, .int .i64 0, .int .i64 0, .slice none 0 0, .string ⟨#[]⟩] 51)).alloc (.cells #[.slice (some ⟨w.heap.size + 1 + 1 + 1 + 1 + 1 + 1 + 1 + 1 + 1, 0, none⟩) 2 2] 26)).heap[w.heap.size]? = some (Obj.cells #[.int .i64 0, .int .i64 0, .int .i64 4] 41 (0, 0)) := allocs_at [Obj.cells #[.int .i64 0, .int .i64 0, .int .i64 4] 41, Obj.cells #[.int .i64 2, .int .i64 0, .int .i64 4] 41, Obj.cells #[.int .i64 4, .int .i64 0, .int .i64 4] 41, Obj.cells #[.int .i64 2, .int .i64 0, .int .i64 0, .int .i64 0] 49, Obj.cells #[.int .i64 0, .int .i64 0, .int .i64 4, .int .i64 2, .int .i64 0, .int .i64 4] 41, Obj.cells #[.bool true, .bool false] 4, Obj.cells #[.int .i64 3] 3, Obj.cells #[.int .i64 0, .int .i64 0, .int .i64 4, .int .i64 4, .int .i64 0, .int .i64 4] 41, Obj.cells #[.bool false, .bool false] 4, Obj.cells #[.int .i64 1, .slice (some ⟨w.heap.size + 1 + 1 + 1 + 1, 0, none⟩) 2 2, .slice (some ⟨w.heap.size + 1 + 1 + 1 + 1 + 1, 0, none⟩) 2 2, .int .i64 2, .int .i64 0, .int .i64 0, .int .i64 0, .slice (some ⟨w.heap.size + 1 + 1 + 1 + 1 + 1 + 1, 0, none⟩) 1 1, .string ⟨#[]⟩, .int .i64 1, .slice (some ⟨w.heap.size + 1 + 1 + 1 + 1 + 1 + 1 + 1, 0, none⟩) 2 2, .slice (some ⟨w.heap.size + 1 + 1 + 1 + 1 + 1 + 1 + 1 + 1, 0, none⟩) 2 2, .int .i64 2, .int .i64 0, .int .i64 0, .int .i64 0, .slice none 0 0, .string ⟨#[]⟩] 51, Obj.cells #[.slice (some ⟨w.heap.size + 1 + 1 + 1 + 1 + 1 + 1 + 1 + 1 + 1, 0, none⟩) 2 2] 26] w 0 _ rfl
  have t1 : (((((((((((w.alloc (.cells #[.int .i64 0, .int .i64 0, .int .i64 4] 41)).alloc (.cells #[.int .i64 2, .int .i64 0, .int .i64 4] 41)).alloc (.cells #[.int .i64 4, .int .i64 0, .int .i64 4] 41)).alloc (.cells #[.int .i64 2, .int .i64 0, .int .i64 0, .int .i64 0] 49)).alloc (.cells #[.int .i64 0, .int .i64 0, .int .i64 4, .int .i64 2, .int .i64 0, .int .i64 4] 41)).alloc (.cells #[.bool true, .bool false] 4)).alloc (.cells #[.int .i64 3] 3)).alloc (.cells #[.int .i64 0, .int .i64 0, .int .i64 4, .int .i64 4, .int .i64 0, .int .i64 4] 41)).alloc (.cells #[.bool false, .bool false] 4)).alloc (.cells #[.int .i64 1, .slice (some ⟨w.heap.size + 1 + 1 + 1 + 1, 0, none⟩) 2 2, .slice (some ⟨w.heap.size + 1 + 1 + 1 + 1 + 1, 0, none⟩) 2 2, .int .i64 2, .int .i64 0, .int .i64 0, .int .i64 0, .slice (some ⟨w.heap.size + 1 + 1 + 1 + 1 + 1 + 1, 0, none⟩) 1 1, .string ⟨#[]⟩, .int .i64 1, .slice (some ⟨w.heap.size + 1 + 1 + 1 + 1 + 1 + 1 + 1, 0, none⟩) 2 2, .slice (some ⟨w.heap.size + 1 + 1 + 1 + 1 + 1 + 1 + 1 + 1, 0, none⟩) 2 2, .int .i64 2, .int .i64 0, .int .i64 0, .int .i64 0, .slice none 0 0, .string ⟨#[]⟩] 51)).alloc (.cells #[.slice (some ⟨w.heap.size + 1 + 1 + 1 + 1 + 1 + 1 + 1 + 1 + 1, 0, none⟩) 2 2] 26)).heap[w.heap.size + 1]? = some (Obj.cells #[.int .i64 2, .int .i64 0, .int .i64 4] 41 (0, 0)) := allocs_at [Obj.cells #[.int .i64 0, .int .i64 0, .int .i64 4] 41, Obj.cells #[.int .i64 2, .int .i64 0, .int .i64 4] 41, Obj.cells #[.int .i64 4, .int .i64 0, .int .i64 4] 41, Obj.cells #[.int .i64 2, .int .i64 0, .int .i64 0, .int .i64 0] 49, Obj.cells #[.int .i64 0, .int .i64 0, .int .i64 4, .int .i64 2, .int .i64 0, .int .i64 4] 41, Obj.cells #[.bool true, .bool false] 4, Obj.cells #[.int .i64 3] 3, Obj.cells #[.int .i64 0, .int .i64 0, .int .i64 4, .int .i64 4, .int .i64 0, .int .i64 4] 41, Obj.cells #[.bool false, .bool false] 4, Obj.cells #[.int .i64 1, .slice (some ⟨w.heap.size + 1 + 1 + 1 + 1, 0, none⟩) 2 2, .slice (some ⟨w.heap.size + 1 + 1 + 1 + 1 + 1, 0, none⟩) 2 2, .int .i64 2, .int .i64 0, .int .i64 0, .int .i64 0, .slice (some ⟨w.heap.size + 1 + 1 + 1 + 1 + 1 + 1, 0, none⟩) 1 1, .string ⟨#[]⟩, .int .i64 1, .slice (some ⟨w.heap.size + 1 + 1 + 1 + 1 + 1 + 1 + 1, 0, none⟩) 2 2, .slice (some ⟨w.heap.size + 1 + 1 + 1 + 1 + 1 + 1 + 1 + 1, 0, none⟩) 2 2, .int .i64 2, .int .i64 0, .int .i64 0, .int .i64 0, .slice none 0 0, .string ⟨#[]⟩] 51, Obj.cells #[.slice (some ⟨w.heap.size + 1 + 1 + 1 + 1 + 1 + 1 + 1 + 1 + 1, 0, none⟩) 2 2] 26] w 1 _ rfl
  have t2 : (((((((((((w.alloc (.cells #[.int .i64 0, .int .i64 0, .int .i64 4] 41)).alloc (.cells #[.int .i64 2, .int .i64 0, .int .i64 4] 41)).alloc (.cells #[.int .i64 4, .int .i64 0, .int .i64 4] 41)).alloc (.cells #[.int .i64 2, .int .i64 0, .int .i64 0, .int .i64 0] 49)).alloc (.cells #[.int .i64 0, .int .i64 0, .int .i64 4, .int .i64 2, .int .i64 0, .int .i64 4] 41)).alloc (.cells #[.bool true, .bool false] 4)).alloc (.cells #[.int .i64 3] 3)).alloc (.cells #[.int .i64 0, .int .i64 0, .int .i64 4, .int .i64 4, .int .i64 0, .int .i64 4] 41)).alloc (.cells #[.bool false, .bool false] 4)).alloc (.cells #[.int .i64 1, .slice (some ⟨w.heap.size + 1 + 1 + 1 + 1, 0, none⟩) 2 2, .slice (some ⟨w.heap.size + 1 + 1 + 1 + 1 + 1, 0, none⟩) 2 2, .int .i64 2, .int .i64 0, .int .i64 0, .int .i64 0, .slice (some ⟨w.heap.size + 1 + 1 + 1 + 1 + 1 + 1, 0, none⟩) 1 1, .string ⟨#[]⟩, .int .i64 1, .slice (some ⟨w.heap.size + 1 + 1 + 1 + 1 + 1 + 1 + 1, 0, none⟩) 2 2, .slice (some ⟨w.heap.size + 1 + 1 + 1 + 1 + 1 + 1 + 1 + 1, 0, none⟩) 2 2, .int .i64 2, .int .i64 0, .int .i64 0, .int .i64 0, .slice none 0 0, .string ⟨#[]⟩] 51)).alloc (.cells #[.slice (some ⟨w.heap.size + 1 + 1 + 1 + 1 + 1 + 1 + 1 + 1 + 1, 0, none⟩) 2 2] 26)).heap[w.heap.size + 1 + 1]? = some (Obj.cells #[.int .i64 4, .int .i64 0, .int .i64 4] 41 (0, 0)) := allocs_at [Obj.cells #[.int .i64 0, .int .i64 0, .int .i64 4] 41, Obj.cells #[.int .i64 2, .int .i64 0, .int .i64 4] 41, Obj.cells #[.int .i64 4, .int .i64 0, .int .i64 4] 41, Obj.cells #[.int .i64 2, .int .i64 0, .int .i64 0, .int .i64 0] 49, Obj.cells #[.int .i64 0, .int .i64 0, .int .i64 4, .int .i64 2, .int .i64 0, .int .i64 4] 41, Obj.cells #[.bool true, .bool false] 4, Obj.cells #[.int .i64 3] 3, Obj.cells #[.int .i64 0, .int .i64 0, .int .i64 4, .int .i64 4, .int .i64 0, .int .i64 4] 41, Obj.cells #[.bool false, .bool false] 4, Obj.cells #[.int .i64 1, .slice (some ⟨w.heap.size + 1 + 1 + 1 + 1, 0, none⟩) 2 2, .slice (some ⟨w.heap.size + 1 + 1 + 1 + 1 + 1, 0, none⟩) 2 2, .int .i64 2, .int .i64 0, .int .i64 0, .int .i64 0, .slice (some ⟨w.heap.size + 1 + 1 + 1 + 1 + 1 + 1, 0, none⟩) 1 1, .string ⟨#[]⟩, .int .i64 1, .slice (some ⟨w.heap.size + 1 + 1 + 1 + 1 + 1 + 1 + 1, 0, none⟩) 2 2, .slice (some ⟨w.heap.size + 1 + 1 + 1 + 1 + 1 + 1 + 1 + 1, 0, none⟩) 2 2, .int .i64 2, .int .i64 0, .int .i64 0, .int .i64 0, .slice none 0 0, .string ⟨#[]⟩] 51, Obj.cells #[.slice (some ⟨w.heap.size + 1 + 1 + 1 + 1 + 1 + 1 + 1 + 1 + 1, 0, none⟩) 2 2] 26] w 2 _ rfl
  have t3 : (((((((((((w.alloc (.cells #[.int .i64 0, .int .i64 0, .int .i64 4] 41)).alloc (.cells #[.int .i64 2, .int .i64 0, .int .i64 4] 41)).alloc (.cells #[.int .i64 4, .int .i64 0, .int .i64 4] 41)).alloc (.cells #[.int .i64 2, .int .i64 0, .int .i64 0, .int .i64 0] 49)).alloc (.cells #[.int .i64 0, .int .i64 0, .int .i64 4, .int .i64 2, .int .i64 0, .int .i64 4] 41)).alloc (.cells #[.bool true, .bool false] 4)).alloc (.cells #[.int .i64 3] 3)).alloc (.cells #[.int .i64 0, .int .i64 0, .int .i64 4, .int .i64 4, .int .i64 0, .int .i64 4] 41)).alloc (.cells #[.bool false, .bool false] 4)).alloc (.cells #[.int .i64 1, .slice (some ⟨w.heap.size + 1 + 1 + 1 + 1, 0, none⟩) 2 2, .slice (some ⟨w.heap.size + 1 + 1 + 1 + 1 + 1, 0, none⟩) 2 2, .int .i64 2, .int .i64 0, .int .i64 0, .int .i64 0, .slice (some ⟨w.heap.size + 1 + 1 + 1 + 1 + 1 + 1, 0, none⟩) 1 1, .string ⟨#[]⟩, .int .i64 1, .slice (some ⟨w.heap.size + 1 + 1 + 1 + 1 + 1 + 1 + 1, 0, none⟩) 2 2, .slice (some ⟨w.heap.size + 1 + 1 + 1 + 1 + 1 + 1 + 1 + 1, 0, none⟩) 2 2, .int .i64 2, .int .i64 0, .int .i64 0, .int .i64 0, .slice none 0 0, .string ⟨#[]⟩] 51)).alloc (.cells #[.slice (some ⟨w.heap.size + 1 + 1 + 1 + 1 + 1 + 1 + 1 + 1 + 1, 0, none⟩) 2 2] 26)).heap[w.heap.size + 1 + 1 + 1]? = some (Obj.cells #[.int .i64 2, .int .i64 0, .int .i64 0, .int .i64 0] 49 (0, 0)) := allocs_at [Obj.cells #[.int .i64 0, .int .i64 0, .int .i64 4] 41, Obj.cells #[.int .i64 2, .int .i64 0, .int .i64 4] 41, Obj.cells #[.int .i64 4, .int .i64 0, .int .i64 4] 41, Obj.cells #[.int .i64 2, .int .i64 0, .int .i64 0, .int .i64 0] 49, Obj.cells #[.int .i64 0, .int .i64 0, .int .i64 4, .int .i64 2, .int .i64 0, .int .i64 4] 41, Obj.cells #[.bool true, .bool false] 4, Obj.cells #[.int .i64 3] 3, Obj.cells #[.int .i64 0, .int .i64 0, .int .i64 4, .int .i64 4, .int .i64 0, .int .i64 4] 41, Obj.cells #[.bool false, .bool false] 4, Obj.cells #[.int .i64 1, .slice (some ⟨w.heap.size + 1 + 1 + 1 + 1, 0, none⟩) 2 2, .slice (some ⟨w.heap.size + 1 + 1 + 1 + 1 + 1, 0, none⟩) 2 2, .int .i64 2, .int .i64 0, .int .i64 0, .int .i64 0, .slice (some ⟨w.heap.size + 1 + 1 + 1 + 1 + 1 + 1, 0, none⟩) 1 1, .string ⟨#[]⟩, .int .i64 1, .slice (some ⟨w.heap.size + 1 + 1 + 1 + 1 + 1 + 1 + 1, 0, none⟩) 2 2, .slice (some ⟨w.heap.size + 1 + 1 + 1 + 1 + 1 + 1 + 1 + 1, 0, none⟩) 2 2, .int .i64 2, .int .i64 0, .int .i64 0, .int .i64 0, .slice none 0 0, .string ⟨#[]⟩] 51, Obj.cells #[.slice (some ⟨w.heap.size + 1 + 1 + 1 + 1 + 1 + 1 + 1 + 1 + 1, 0, none⟩) 2 2] 26] w 3 _ rfl
  have t4 : (((((((((((w.alloc (.cells #[.int .i64 0, .int .i64 0, .int .i64 4] 41)).alloc (.cells #[.int .i64 2, .int .i64 0, .int .i64 4] 41)).alloc (.cells #[.int .i64 4, .int .i64 0, .int .i64 4] 41)).alloc (.cells #[.int .i64 2, .int .i64 0, .int .i64 0, .int .i64 0] 49)).alloc (.cells #[.int .i64 0, .int .i64 0, .int .i64 4, .int .i64 2, .int .i64 0, .int .i64 4] 41)).alloc (.cells #[.bool true, .bool false] 4)).alloc (.cells #[.int .i64 3] 3)).alloc (.cells #[.int .i64 0, .int .i64 0, .int .i64 4, .int .i64 4, .int .i64 0, .int .i64 4] 41)).alloc (.cells #[.bool false, .bool false] 4)).alloc (.cells #[.int .i64 1, .slice (some ⟨w.heap.size + 1 + 1 + 1 + 1, 0, none⟩) 2 2, .slice (some ⟨w.heap.size + 1 + 1 + 1 + 1 + 1, 0, none⟩) 2 2, .int .i64 2, .int .i64 0, .int .i64 0, .int .i64 0, .slice (some ⟨w.heap.size + 1 + 1 + 1 + 1 + 1 + 1, 0, none⟩) 1 1, .string ⟨#[]⟩, .int .i64 1, .slice (some ⟨w.heap.size + 1 + 1 + 1 + 1 + 1 + 1 + 1, 0, none⟩) 2 2, .slice (some ⟨w.heap.size + 1 + 1 + 1 + 1 + 1 + 1 + 1 + 1, 0, none⟩) 2 2, .int .i64 2, .int .i64 0, .int .i64 0, .int .i64 0, .slice none 0 0, .string ⟨#[]⟩] 51)).alloc (.cells #[.slice (some ⟨w.heap.size + 1 + 1 + 1 + 1 + 1 + 1 + 1 + 1 + 1, 0, none⟩) 2 2] 26)).heap[w.heap.size + 1 + 1 + 1 + 1]? = some (Obj.cells #[.int .i64 0, .int .i64 0, .int .i64 4, .int .i64 2, .int .i64 0, .int .i64 4] 41 (0, 0)) := allocs_at [Obj.cells #[.int .i64 0, .int .i64 0, .int .i64 4] 41, Obj.cells #[.int .i64 2, .int .i64 0, .int .i64 4] 41, Obj.cells #[.int .i64 4, .int .i64 0, .int .i64 4] 41, Obj.cells #[.int .i64 2, .int .i64 0, .int .i64 0, .int .i64 0] 49, Obj.cells #[.int .i64 0, .int .i64 0, .int .i64 4, .int .i64 2, .int .i64 0, .int .i64 4] 41, Obj.cells #[.bool true, .bool false] 4, Obj.cells #[.int .i64 3] 3, Obj.cells #[.int .i64 0, .int .i64 0, .int .i64 4, .int .i64 4, .int .i64 0, .int .i64 4] 41, Obj.cells #[.bool false, .bool false] 4, Obj.cells #[.int .i64 1, .slice (some ⟨w.heap.size + 1 + 1 + 1 + 1, 0, none⟩) 2 2, .slice (some ⟨w.heap.size + 1 + 1 + 1 + 1 + 1, 0, none⟩) 2 2, .int .i64 2, .int .i64 0, .int .i64 0, .int .i64 0, .slice (some ⟨w.heap.size + 1 + 1 + 1 + 1 + 1 + 1, 0, none⟩) 1 1, .string ⟨#[]⟩, .int .i64 1, .slice (some ⟨w.heap.size + 1 + 1 + 1 + 1 + 1 + 1 + 1, 0, none⟩) 2 2, .slice (some ⟨w.heap.size + 1 + 1 + 1 + 1 + 1 + 1 + 1 + 1, 0, none⟩) 2 2, .int .i64 2, .int .i64 0, .int .i64 0, .int .i64 0, .slice none 0 0, .string ⟨#[]⟩] 51, Obj.cells #[.slice (some ⟨w.heap.size + 1 + 1 + 1 + 1 + 1 + 1 + 1 + 1 + 1, 0, none⟩) 2 2] 26] w 4 _ rfl
  have t5 : (((((((((((w.alloc (.cells #[.int .i64 0, .int .i64 0, .int .i64 4] 41)).alloc (.cells #[.int .i64 2, .int .i64 0, .int .i64 4] 41)).alloc (.cells #[.int .i64 4, .int .i64 0, .int .i64 4] 41)).alloc (.cells #[.int .i64 2, .int .i64 0, .int .i64 0, .int .i64 0] 49)).alloc (.cells #[.int .i64 0, .int .i64 0, .int .i64 4, .int .i64 2, .int .i64 0, .int .i64 4] 41)).alloc (.cells #[.bool true, .bool false] 4)).alloc (.cells #[.int .i64 3] 3)).alloc (.cells #[.int .i64 0, .int .i64 0, .int .i64 4, .int .i64 4, .int .i64 0, .int .i64 4] 41)).alloc (.cells #[.bool false, .bool false] 4)).alloc (.cells #[.int .i64 1, .slice (some ⟨w.heap.size + 1 + 1 + 1 + 1, 0, none⟩) 2 2, .slice (some ⟨w.heap.size + 1 + 1 + 1 + 1 + 1, 0, none⟩) 2 2, .int .i64 2, .int .i64 0, .int .i64 0, .int .i64 0, .slice (some ⟨w.heap.size + 1 + 1 + 1 + 1 + 1 + 1, 0, none⟩) 1 1, .string ⟨#[]⟩, .int .i64 1, .slice (some ⟨w.heap.size + 1 + 1 + 1 + 1 + 1 + 1 + 1, 0, none⟩) 2 2, .slice (some ⟨w.heap.size + 1 + 1 + 1 + 1 + 1 + 1 + 1 + 1, 0, none⟩) 2 2, .int .i64 2, .int .i64 0, .int .i64 0, .int .i64 0, .slice none 0 0, .string ⟨#[]⟩] 51)).alloc (.cells #[.slice (some ⟨w.heap.size + 1 + 1 + 1 + 1 + 1 + 1 + 1 + 1 + 1, 0, none⟩) 2 2] 26)).heap[w.heap.size + 1 + 1 + 1 + 1 + 1]? = some (Obj.cells #[.bool true, .bool false] 4 (0, 0)) := allocs_at [Obj.cells #[.int .i64 0, .int .i64 0, .int .i64 4] 41, Obj.cells #[.int .i64 2, .int .i64 0, .int .i64 4] 41, Obj.cells #[.int .i64 4, .int .i64 0, .int .i64 4] 41, Obj.cells #[.int .i64 2, .int .i64 0, .int .i64 0, .int .i64 0] 49, Obj.cells #[.int .i64 0, .int .i64 0, .int .i64 4, .int .i64 2, .int .i64 0, .int .i64 4] 41, Obj.cells #[.bool true, .bool false] 4, Obj.cells #[.int .i64 3] 3, Obj.cells #[.int .i64 0, .int .i64 0, .int .i64 4, .int .i64 4, .int .i64 0, .int .i64 4] 41, Obj.cells #[.bool false, .bool false] 4, Obj.cells #[.int .i64 1, .slice (some ⟨w.heap.size + 1 + 1 + 1 + 1, 0, none⟩) 2 2, .slice (some ⟨w.heap.size + 1 + 1 + 1 + 1 + 1, 0, none⟩) 2 2, .int .i64 2, .int .i64 0, .int .i64 0, .int .i64 0, .slice (some ⟨w.heap.size + 1 + 1 + 1 + 1 + 1 + 1, 0, none⟩) 1 1, .string ⟨#[]⟩, .int .i64 1, .slice (some ⟨w.heap.size + 1 + 1 + 1 + 1 + 1 + 1 + 1, 0, none⟩) 2 2, .slice (some ⟨w.heap.size + 1 + 1 + 1 + 1 + 1 + 1 + 1 + 1, 0, none⟩) 2 2, .int .i64 2, .int .i64 0, .int .i64 0, .int .i64 0, .slice none 0 0, .string ⟨#[]⟩] 51, Obj.cells #[.slice (some ⟨w.heap.size + 1 + 1 + 1 + 1 + 1 + 1 + 1 + 1 + 1, 0, none⟩) 2 2] 26] w 5 _ rfl
  have t6 : (((((((((((w.alloc (.cells #[.int .i64 0, .int .i64 0, .int .i64 4] 41)).alloc (.cells #[.int .i64 2, .int .i64 0, .int .i64 4] 41)).alloc (.cells #[.int .i64 4, .int .i64 0, .int .i64 4] 41)).alloc (.cells #[.int .i64 2, .int .i64 0, .int .i64 0, .int .i64 0] 49)).alloc (.cells #[.int .i64 0, .int .i64 0, .int .i64 4, .int .i64 2, .int .i64 0, .int .i64 4] 41)).alloc (.cells #[.bool true, .bool false] 4)).alloc (.cells #[.int .i64 3] 3)).alloc (.cells #[.int .i64 0, .int .i64 0, .int .i64 4, .int .i64 4, .int .i64 0, .int .i64 4] 41)).alloc (.cells #[.bool false, .bool false] 4)).alloc (.cells #[.int .i64 1, .slice (some ⟨w.heap.size + 1 + 1 + 1 + 1, 0, none⟩) 2 2, .slice (some ⟨w.heap.size + 1 + 1 + 1 + 1 + 1, 0, none⟩) 2 2, .int .i64 2, .int .i64 0, .int .i64 0, .int .i64 0, .slice (some ⟨w.heap.size + 1 + 1 + 1 + 1 + 1 + 1, 0, none⟩) 1 1, .string ⟨#[]⟩, .int .i64 1, .slice (some ⟨w.heap.size + 1 + 1 + 1 + 1 + 1 + 1 + 1, 0, none⟩) 2 2, .slice (some ⟨w.heap.size + 1 + 1 + 1 + 1 + 1 + 1 + 1 + 1, 0, none⟩) 2 2, .int .i64 2, .int .i64 0, .int .i64 0, .int .i64 0, .slice none 0 0, .string ⟨#[]⟩] 51)).alloc (.cells #[.slice (some ⟨w.heap.size + 1 + 1 + 1 + 1 + 1 + 1 + 1 + 1 + 1, 0, none⟩) 2 2] 26)).heap[w.heap.size + 1 + 1 + 1 + 1 + 1 + 1]? = some (Obj.cells #[.int .i64 3] 3 (0, 0)) := allocs_at [Obj.cells #[.int .i64 0, .int .i64 0, .int .i64 4] 41, Obj.cells #[.int .i64 2, .int .i64 0, .int .i64 4] 41, Obj.cells #[.int .i64 4, .int .i64 0, .int .i64 4] 41, Obj.cells #[.int .i64 2, .int .i64 0, .int .i64 0, .int .i64 0] 49, Obj.cells #[.int .i64 0, .int .i64 0, .int .i64 4, .int .i64 2, .int .i64 0, .int .i64 4] 41, Obj.cells #[.bool true, .bool false] 4, Obj.cells #[.int .i64 3] 3, Obj.cells #[.int .i64 0, .int .i64 0, .int .i64 4, .int .i64 4, .int .i64 0, .int .i64 4] 41, Obj.cells #[.bool false, .bool false] 4, Obj.cells #[.int .i64 1, .slice (some ⟨w.heap.size + 1 + 1 + 1 + 1, 0, none⟩) 2 2, .slice (some ⟨w.heap.size + 1 + 1 + 1 + 1 + 1, 0, none⟩) 2 2, .int .i64 2, .int .i64 0, .int .i64 0, .int .i64 0, .slice (some ⟨w.heap.size + 1 + 1 + 1 + 1 + 1 + 1, 0, none⟩) 1 1, .string ⟨#[]⟩, .int .i64 1, .slice (some ⟨w.heap.size + 1 + 1 + 1 + 1 + 1 + 1 + 1, 0, none⟩) 2 2, .slice (some ⟨w.heap.size + 1 + 1 + 1 + 1 + 1 + 1 + 1 + 1, 0, none⟩) 2 2, .int .i64 2, .int .i64 0, .int .i64 0, .int .i64 0, .slice none 0 0, .string ⟨#[]⟩] 51, Obj.cells #[.slice (some ⟨w.heap.size + 1 + 1 + 1 + 1 + 1 + 1 + 1 + 1 + 1, 0, none⟩) 2 2] 26] w 6 _ rfl
  have t7 : (((((((((((w.alloc (.cells #[.int .i64 0, .int .i64 0, .int .i64 4] 41)).alloc (.cells #[.int .i64 2, .int .i64 0, .int .i64 4] 41)).alloc (.cells #[.int .i64 4, .int .i64 0, .int .i64 4] 41)).alloc (.cells #[.int .i64 2, .int .i64 0, .int .i64 0, .int .i64 0] 49)).alloc (.cells #[.int .i64 0, .int .i64 0, .int .i64 4, .int .i64 2, .int .i64 0, .int .i64 4] 41)).alloc (.cells #[.bool true, .bool false] 4)).alloc (.cells #[.int .i64 3] 3)).alloc (.cells #[.int .i64 0, .int .i64 0, .int .i64 4, .int .i64 4, .int .i64 0, .int .i64 4] 41)).alloc (.cells #[.bool false, .bool false] 4)).alloc (.cells #[.int .i64 1, .slice (some ⟨w.heap.size + 1 + 1 + 1 + 1, 0, none⟩) 2 2, .slice (some ⟨w.heap.size + 1 + 1 + 1 + 1 + 1, 0, none⟩) 2 2, .int .i64 2, .int .i64 0, .int .i64 0, .int .i64 0, .slice (some ⟨w.heap.size + 1 + 1 + 1 + 1 + 1 + 1, 0, none⟩) 1 1, .string ⟨#[]⟩, .int .i64 1, .slice (some ⟨w.heap.size + 1 + 1 + 1 + 1 + 1 + 1 + 1, 0, none⟩) 2 2, .slice (some ⟨w.heap.size + 1 + 1 + 1 + 1 + 1 + 1 + 1 + 1, 0, none⟩) 2 2, .int .i64 2, .int .i64 0, .int .i64 0, .int .i64 0, .slice none 0 0, .string ⟨#[]⟩] 51)).alloc (.cells #[.slice (some ⟨w.heap.size + 1 + 1 + 1 + 1 + 1 + 1 + 1 + 1 + 1, 0, none⟩) 2 2] 26)).heap[w.heap.size + 1 + 1 + 1 + 1 + 1 + 1 + 1]? = some (Obj.cells #[.int .i64 0, .int .i64 0, .int .i64 4, .int .i64 4, .int .i64 0, .int .i64 4] 41 (0, 0)) := allocs_at [Obj.cells #[.int .i64 0, .int .i64 0, .int .i64 4] 41, Obj.cells #[.int .i64 2, .int .i64 0, .int .i64 4] 41, Obj.cells #[.int .i64 4, .int .i64 0, .int .i64 4] 41, Obj.cells #[.int .i64 2, .int .i64 0, .int .i64 0, .int .i64 0] 49, Obj.cells #[.int .i64 0, .int .i64 0, .int .i64 4, .int .i64 2, .int .i64 0, .int .i64 4] 41, Obj.cells #[.bool true, .bool false] 4, Obj.cells #[.int .i64 3] 3, Obj.cells #[.int .i64 0, .int .i64 0, .int .i64 4, .int .i64 4, .int .i64 0, .int .i64 4] 41, Obj.cells #[.bool false, .bool false] 4, Obj.cells #[.int .i64 1, .slice (some ⟨w.heap.size + 1 + 1 + 1 + 1, 0, none⟩) 2 2, .slice (some ⟨w.heap.size + 1 + 1 + 1 + 1 + 1, 0, none⟩) 2 2, .int .i64 2, .int .i64 0, .int .i64 0, .int .i64 0, .slice (some ⟨w.heap.size + 1 + 1 + 1 + 1 + 1 + 1, 0, none⟩) 1 1, .string ⟨#[]⟩, .int .i64 1, .slice (some ⟨w.heap.size + 1 + 1 + 1 + 1 + 1 + 1 + 1, 0, none⟩) 2 2, .slice (some ⟨w.heap.size + 1 + 1 + 1 + 1 + 1 + 1 + 1 + 1, 0, none⟩) 2 2, .int .i64 2, .int .i64 0, .int .i64 0, .int .i64 0, .slice none 0 0, .string ⟨#[]⟩] 51, Obj.cells #[.slice (some ⟨w.heap.size + 1 + 1 + 1 + 1 + 1 + 1 + 1 + 1 + 1, 0, none⟩) 2 2] 26] w 7 _ rfl
  have t8 : (((((((((((w.alloc (.cells #[.int .i64 0, .int .i64 0, .int .i64 4] 41)).alloc (.cells #[.int .i64 2, .int .i64 0, .int .i64 4] 41)).alloc (.cells #[.int .i64 4, .int .i64 0, .int .i64 4] 41)).alloc (.cells #[.int .i64 2, .int .i64 0, .int .i64 0, .int .i64 0] 49)).alloc (.cells #[.int .i64 0, .int .i64 0, .int .i64 4, .int .i64 2, .int .i64 0, .int .i64 4] 41)).alloc (.cells #[.bool true, .bool false] 4)).alloc (.cells #[.int .i64 3] 3)).alloc (.cells #[.int .i64 0, .int .i64 0, .int .i64 4, .int .i64 4, .int .i64 0, .int .i64 4] 41)).alloc (.cells #[.bool false, .bool false] 4)).alloc (.cells #[.int .i64 1, .slice (some ⟨w.heap.size + 1 + 1 + 1 + 1, 0, none⟩) 2 2, .slice (some ⟨w.heap.size + 1 + 1 + 1 + 1 + 1, 0, none⟩) 2 2, .int .i64 2, .int .i64 0, .int .i64 0, .int .i64 0, .slice (some ⟨w.heap.size + 1 + 1 + 1 + 1 + 1 + 1, 0, none⟩) 1 1, .string ⟨#[]⟩, .int .i64 1, .slice (some ⟨w.heap.size + 1 + 1 + 1 + 1 + 1 + 1 + 1, 0, none⟩) 2 2, .slice (some ⟨w.heap.size + 1 + 1 + 1 + 1 + 1 + 1 + 1 + 1, 0, none⟩) 2 2, .int .i64 2, .int .i64 0, .int .i64 0, .int .i64 0, .slice none 0 0, .string ⟨#[]⟩] 51)).alloc (.cells #[.slice (some ⟨w.heap.size + 1 + 1 + 1 + 1 + 1 + 1 + 1 + 1 + 1, 0, none⟩) 2 2] 26)).heap[w.heap.size + 1 + 1 + 1 + 1 + 1 + 1 + 1 + 1]? = some (Obj.cells #[.bool false, .bool false] 4 (0, 0)) := allocs_at [Obj.cells #[.int .i64 0, .int .i64 0, .int .i64 4] 41, Obj.cells #[.int .i64 2, .int .i64 0, .int .i64 4] 41, Obj.cells #[.int .i64 4, .int .i64 0, .int .i64 4] 41, Obj.cells #[.int .i64 2, .int .i64 0, .int .i64 0, .int .i64 0] 49, Obj.cells #[.int .i64 0, .int .i64 0, .int .i64 4, .int .i64 2, .int .i64 0, .int .i64 4] 41, Obj.cells #[.bool true, .bool false] 4, Obj.cells #[.int .i64 3] 3, Obj.cells #[.int .i64 0, .int .i64 0, .int .i64 4, .int .i64 4, .int .i64 0, .int .i64 4] 41, Obj.cells #[.bool false, .bool false] 4, Obj.cells #[.int .i64 1, .slice (some ⟨w.heap.size + 1 + 1 + 1 + 1, 0, none⟩) 2 2, .slice (some ⟨w.heap.size + 1 + 1 + 1 + 1 + 1, 0, none⟩) 2 2, .int .i64 2, .int .i64 0, .int .i64 0, .int .i64 0, .slice (some ⟨w.heap.size + 1 + 1 + 1 + 1 + 1 + 1, 0, none⟩) 1 1, .string ⟨#[]⟩, .int .i64 1, .slice (some ⟨w.heap.size + 1 + 1 + 1 + 1 + 1 + 1 + 1, 0, none⟩) 2 2, .slice (some ⟨w.heap.size + 1 + 1 + 1 + 1 + 1 + 1 + 1 + 1, 0, none⟩) 2 2, .int .i64 2, .int .i64 0, .int .i64 0, .int .i64 0, .slice none 0 0, .string ⟨#[]⟩] 51, Obj.cells #[.slice (some ⟨w.heap.size + 1 + 1 + 1 + 1 + 1 + 1 + 1 + 1 + 1, 0, none⟩) 2 2] 26] w 8 _ rfl
  have t9 : (((((((((((w.alloc (.cells #[.int .i64 0, .int .i64 0, .int .i64 4] 41)).alloc (.cells #[.int .i64 2, .int .i64 0, .int .i64 4] 41)).alloc (.cells #[.int .i64 4, .int .i64 0, .int .i64 4] 41)).alloc (.cells #[.int .i64 2, .int .i64 0, .int .i64 0, .int .i64 0] 49)).alloc (.cells #[.int .i64 0, .int .i64 0, .int .i64 4, .int .i64 2, .int .i64 0, .int .i64 4] 41)).alloc (.cells #[.bool true, .bool false] 4)).alloc (.cells #[.int .i64 3] 3)).alloc (.cells #[.int .i64 0, .int .i64 0, .int .i64 4, .int .i64 4, .int .i64 0, .int .i64 4] 41)).alloc (.cells #[.bool false, .bool false] 4)).alloc (.cells #[.int .i64 1, .slice (some ⟨w.heap.size + 1 + 1 + 1 + 1, 0, none⟩) 2 2, .slice (some ⟨w.heap.size + 1 + 1 + 1 + 1 + 1, 0, none⟩) 2 2, .int .i64 2, .int .i64 0, .int .i64 0, .int .i64 0, .slice (some ⟨w.heap.size + 1 + 1 + 1 + 1 + 1 + 1, 0, none⟩) 1 1, .string ⟨#[]⟩, .int .i64 1, .slice (some ⟨w.heap.size + 1 + 1 + 1 + 1 + 1 + 1 + 1, 0, none⟩) 2 2, .slice (some ⟨w.heap.size + 1 + 1 + 1 + 1 + 1 + 1 + 1 + 1, 0, none⟩) 2 2, .int .i64 2, .int .i64 0, .int .i64 0, .int .i64 0, .slice none 0 0, .string ⟨#[]⟩] 51)).alloc (.cells #[.slice (some ⟨w.heap.size + 1 + 1 + 1 + 1 + 1 + 1 + 1 + 1 + 1, 0, none⟩) 2 2] 26)).heap[w.heap.size + 1 + 1 + 1 + 1 + 1 + 1 + 1 + 1 + 1]? = some (Obj.cells #[.int .i64 1, .slice (some ⟨w.heap.size + 1 + 1 + 1 + 1, 0, none⟩) 2 2, .slice (some ⟨w.heap.size + 1 + 1 + 1 + 1 + 1, 0, none⟩) 2 2, .int .i64 2, .int .i64 0, .int .i64 0, .int .i64 0, .slice (some ⟨w.heap.size + 1 + 1 + 1 + 1 + 1 + 1, 0, none⟩) 1 1, .string ⟨#[]⟩, .int .i64 1, .slice (some ⟨w.heap.size + 1 + 1 + 1 + 1 + 1 + 1 + 1, 0, none⟩) 2 2, .slice (some ⟨w.heap.size + 1 + 1 + 1 + 1 + 1 + 1 + 1 + 1, 0, none⟩) 2 2, .int .i64 2, .int .i64 0, .int .i64 0, .int .i64 0, .slice none 0 0, .string ⟨#[]⟩] 51 (0, 0)) := allocs_at [Obj.cells #[.int .i64 0, .int .i64 0, .int .i64 4] 41, Obj.cells #[.int .i64 2, .int .i64 0, .int .i64 4] 41, Obj.cells #[.int .i64 4, .int .i64 0, .int .i64 4] 41, Obj.cells #[.int .i64 2, .int .i64 0, .int .i64 0, .int .i64 0] 49, Obj.cells #[.int .i64 0, .int .i64 0, .int .i64 4, .int .i64 2, .int .i64 0, .int .i64 4] 41, Obj.cells #[.bool true, .bool false] 4, Obj.cells #[.int .i64 3] 3, Obj.cells #[.int .i64 0, .int .i64 0, .int .i64 4, .int .i64 4, .int .i64 0, .int .i64 4] 41, Obj.cells #[.bool false, .bool false] 4, Obj.cells #[.int .i64 1, .slice (some ⟨w.heap.size + 1 + 1 + 1 + 1, 0, none⟩) 2 2, .slice (some ⟨w.heap.size + 1 + 1 + 1 + 1 + 1, 0, none⟩) 2 2, .int .i64 2, .int .i64 0, .int .i64 0, .int .i64 0, .slice (some ⟨w.heap.size + 1 + 1 + 1 + 1 + 1 + 1, 0, none⟩) 1 1, .string ⟨#[]⟩, .int .i64 1, .slice (some ⟨w.heap.size + 1 + 1 + 1 + 1 + 1 + 1 + 1, 0, none⟩) 2 2, .slice (some ⟨w.heap.size + 1 + 1 + 1 + 1 + 1 + 1 + 1 + 1, 0, none⟩) 2 2, .int .i64 2, .int .i64 0, .int .i64 0, .int .i64 0, .slice none 0 0, .string ⟨#[]⟩] 51, Obj.cells #[.slice (some ⟨w.heap.size + 1 + 1 + 1 + 1 + 1 + 1 + 1 + 1 + 1, 0, none⟩) 2 2] 26] w 9 _ rfl
  have t10 : (((((((((((w.alloc (.cells #[.int .i64 0, .int .i64 0, .int .i64 4] 41)).alloc (.cells #[.int .i64 2, .int .i64 0, .int .i64 4] 41)).alloc (.cells #[.int .i64 4, .int .i64 0, .int .i64 4] 41)).alloc (.cells #[.int .i64 2, .int .i64 0, .int .i64 0, .int .i64 0] 49)).alloc (.cells #[.int .i64 0, .int .i64 0, .int .i64 4, .int .i64 2, .int .i64 0, .int .i64 4] 41)).alloc (.cells #[.bool true, .bool false] 4)).alloc (.cells #[.int .i64 3] 3)).alloc (.cells #[.int .i64 0, .int .i64 0, .int .i64 4, .int .i64 4, .int .i64 0, .int .i64 4] 41)).alloc (.cells #[.bool false, .bool false] 4)).alloc (.cells #[.int .i64 1, .slice (some ⟨w.heap.size + 1 + 1 + 1 + 1, 0, none⟩) 2 2, .slice (some ⟨w.heap.size + 1 + 1 + 1 + 1 + 1, 0, none⟩) 2 2, .int .i64 2, .int .i64 0, .int .i64 0, .int .i64 0, .slice (some ⟨w.heap.size + 1 + 1 + 1 + 1 + 1 + 1, 0, none⟩) 1 1, .string ⟨#[]⟩, .int .i64 1, .slice (some ⟨w.heap.size + 1 + 1 + 1 + 1 + 1 + 1 + 1, 0, none⟩) 2 2, .slice (some ⟨w.heap.size + 1 + 1 + 1 + 1 + 1 + 1 + 1 + 1, 0, none⟩) 2 2, .int .i64 2, .int .i64 0, .int .i64 0, .int .i64 0, .slice none 0 0, .string ⟨#[]⟩] 51)).alloc (.cells #[.slice (some ⟨w.heap.size + 1 + 1 + 1 + 1 + 1 + 1 + 1 + 1 + 1, 0, none⟩) 2 2] 26)).heap[w.heap.size + 1 + 1 + 1 + 1 + 1 + 1 + 1 + 1 + 1 + 1]? = some (Obj.cells #[.slice (some ⟨w.heap.size + 1 + 1 + 1 + 1 + 1 + 1 + 1 + 1 + 1, 0, none⟩) 2 2] 26 (0, 0)) := allocs_at [Obj.cells #[.int .i64 0, .int .i64 0, .int .i64 4] 41, Obj.cells #[.int .i64 2, .int .i64 0, .int .i64 4] 41, Obj.cells #[.int .i64 4, .int .i64 0, .int .i64 4] 41, Obj.cells #[.int .i64 2, .int .i64 0, .int .i64 0, .int .i64 0] 49, Obj.cells #[.int .i64 0, .int .i64 0, .int .i64 4, .int .i64 2, .int .i64 0, .int .i64 4] 41, Obj.cells #[.bool true, .bool false] 4, Obj.cells #[.int .i64 3] 3, Obj.cells #[.int .i64 0, .int .i64 0, .int .i64 4, .int .i64 4, .int .i64 0, .int .i64 4] 41, Obj.cells #[.bool false, .bool false] 4, Obj.cells #[.int .i64 1, .slice (some ⟨w.heap.size + 1 + 1 + 1 + 1, 0, none⟩) 2 2, .slice (some ⟨w.heap.size + 1 + 1 + 1 + 1 + 1, 0, none⟩) 2 2, .int .i64 2, .int .i64 0, .int .i64 0, .int .i64 0, .slice (some ⟨w.heap.size + 1 + 1 + 1 + 1 + 1 + 1, 0, none⟩) 1 1, .string ⟨#[]⟩, .int .i64 1, .slice (some ⟨w.heap.size + 1 + 1 + 1 + 1 + 1 + 1 + 1, 0, none⟩) 2 2, .slice (some ⟨w.heap.size + 1 + 1 + 1 + 1 + 1 + 1 + 1 + 1, 0, none⟩) 2 2, .int .i64 2, .int .i64 0, .int .i64 0, .int .i64 0, .slice none 0 0, .string ⟨#[]⟩] 51, Obj.cells #[.slice (some ⟨w.heap.size + 1 + 1 + 1 + 1 + 1 + 1 + 1 + 1 + 1, 0, none⟩) 2 2] 26] w 10 _ rfl
  have HEA : Hid (Evs (((((((((((w.alloc (.cells #[.int .i64 0, .int .i64 0, .int .i64 4] 41)).alloc (.cells #[.int .i64 2, .int .i64 0, .int .i64 4] 41)).alloc (.cells #[.int .i64 4, .int .i64 0, .int .i64 4] 41)).alloc (.cells #[.int .i64 2, .int .i64 0, .int .i64 0, .int .i64 0] 49)).alloc (.cells #[.int .i64 0, .int .i64 0, .int .i64 4, .int .i64 2, .int .i64 0, .int .i64 4] 41)).alloc (.cells #[.bool true, .bool false] 4)).alloc (.cells #[.int .i64 3] 3)).alloc (.cells #[.int .i64 0, .int .i64 0, .int .i64 4, .int .i64 4, .int .i64 0, .int .i64 4] 41)).alloc (.cells #[.bool false, .bool false] 4)).alloc (.cells #[.int .i64 1, .slice (some ⟨w.heap.size + 1 + 1 + 1 + 1, 0, none⟩) 2 2, .slice (some ⟨w.heap.size + 1 + 1 + 1 + 1 + 1, 0, none⟩) 2 2, .int .i64 2, .int .i64 0, .int .i64 0, .int .i64 0, .slice (some ⟨w.heap.size + 1 + 1 + 1 + 1 + 1 + 1, 0, none⟩) 1 1, .string ⟨#[]⟩, .int .i64 1, .slice (some ⟨w.heap.size + 1 + 1 + 1 + 1 + 1 + 1 + 1, 0, none⟩) 2 2, .slice (some ⟨w.heap.size + 1 + 1 + 1 + 1 + 1 + 1 + 1 + 1, 0, none⟩) 2 2, .int .i64 2, .int .i64 0, .int .i64 0, .int .i64 0, .slice none 0 0, .string ⟨#[]⟩] 51)).alloc (.cells #[.slice (some ⟨w.heap.size + 1 + 1 + 1 + 1 + 1 + 1 + 1 + 1 + 1, 0, none⟩) 2 2] 26)) (.slice (some ⟨w.heap.size + 1 + 1 + 1 + 1 + 1 + 1 + 1 + 1 + 1, 0, none⟩) 2 2) [(((⟨1, [(0, 0, 4), (2, 0, 4)], [true, false], 2, 0, 0, 0, [3], ⟨#[]⟩⟩ : Ev), Value.slice (some ⟨w.heap.size + 1 + 1 + 1 + 1, 0, none⟩) 2 2, Value.slice (some ⟨w.heap.size + 1 + 1 + 1 + 1 + 1, 0, none⟩) 2 2, Value.slice (some ⟨w.heap.size + 1 + 1 + 1 + 1 + 1 + 1, 0, none⟩) 1 1) : EM), (((⟨1, [(0, 0, 4), (4, 0, 4)], [false, false], 2, 0, 0, 0, [], ⟨#[]⟩⟩ : Ev), Value.slice (some ⟨w.heap.size + 1 + 1 + 1 + 1 + 1 + 1 + 1, 0, none⟩) 2 2, Value.slice (some ⟨w.heap.size + 1 + 1 + 1 + 1 + 1 + 1 + 1 + 1, 0, none⟩) 2 2, Value.slice none 0 0) : EM)]) := Lib.hid ⟨sl_block (enc := encE) encE_len [(((⟨1, [(0, 0, 4), (2, 0, 4)], [true, false], 2, 0, 0, 0, [3], ⟨#[]⟩⟩ : Ev), Value.slice (some ⟨w.heap.size + 1 + 1 + 1 + 1, 0, none⟩) 2 2, Value.slice (some ⟨w.heap.size + 1 + 1 + 1 + 1 + 1, 0, none⟩) 2 2, Value.slice (some ⟨w.heap.size + 1 + 1 + 1 + 1 + 1 + 1, 0, none⟩) 1 1) : EM), (((⟨1, [(0, 0, 4), (4, 0, 4)], [false, false], 2, 0, 0, 0, [], ⟨#[]⟩⟩ : Ev), Value.slice (some ⟨w.heap.size + 1 + 1 + 1 + 1 + 1 + 1 + 1, 0, none⟩) 2 2, Value.slice (some ⟨w.heap.size + 1 + 1 + 1 + 1 + 1 + 1 + 1 + 1, 0, none⟩) 2 2, Value.slice none 0 0) : EM)] (by simp) t9, fun y hy => by
    rcases List.mem_cons.1 hy with rfl | hy
    · exact ⟨sl_block (enc := encP) lenP [(0, 0, 4), (2, 0, 4)] (by decide) t4, sl_block (enc := encB) (fun _ => rfl) [true, false] (by decide) t5, sl_block (enc := encI) lenI [3] (by decide) t6, by show (0 : Nat) ≤ _; omega⟩
    · rcases List.mem_cons.1 hy with rfl | hy
      · exact ⟨sl_block (enc := encP) lenP [(0, 0, 4), (4, 0, 4)] (by decide) t7, sl_block (enc := encB) (fun _ => rfl) [false, false] (by decide) t8, Sl.none _ _ _, by show (0 : Nat) ≤ _; omega⟩
      · cases hy⟩
  have c_c_0 := cell_of_cells t0 (j := 0) rfl
  have c_c_1 := cell_of_cells t0 (j := 1) rfl
  have c_c_2 := cell_of_cells t0 (j := 2) rfl
  have c_f_0 := cell_of_cells t1 (j := 0) rfl
  have c_f_1 := cell_of_cells t1 (j := 1) rfl
  have c_f_2 := cell_of_cells t1 (j := 2) rfl
  have c_g_0 := cell_of_cells t2 (j := 0) rfl
  have c_g_1 := cell_of_cells t2 (j := 1) rfl
  have c_g_2 := cell_of_cells t2 (j := 2) rfl
  have c_q_0 := cell_of_cells t3 (j := 0) rfl
  have c_q_1 := cell_of_cells t3 (j := 1) rfl
  have c_q_2 := cell_of_cells t3 (j := 2) rfl
  have c_q_3 := cell_of_cells t3 (j := 3) rfl
  have c_a_0 := cell_of_cells t10 (j := 0) rfl
  have c_e_0 := cell_of_cells t9 (j := 0) rfl
  have c_e_1 := cell_of_cells t9 (j := 1) rfl
  have c_e_2 := cell_of_cells t9 (j := 2) rfl
  have c_e_3 := cell_of_cells t9 (j := 3) rfl
  have c_e_4 := cell_of_cells t9 (j := 4) rfl
  have c_e_5 := cell_of_cells t9 (j := 5) rfl
  have c_e_6 := cell_of_cells t9 (j := 6) rfl
  have c_e_7 := cell_of_cells t9 (j := 7) rfl
  have c_e_8 := cell_of_cells t9 (j := 8) rfl
  have z0 : w.heap.size < (((((((((((w.alloc (.cells #[.int .i64 0, .int .i64 0, .int .i64 4] 41)).alloc (.cells #[.int .i64 2, .int .i64 0, .int .i64 4] 41)).alloc (.cells #[.int .i64 4, .int .i64 0, .int .i64 4] 41)).alloc (.cells #[.int .i64 2, .int .i64 0, .int .i64 0, .int .i64 0] 49)).alloc (.cells #[.int .i64 0, .int .i64 0, .int .i64 4, .int .i64 2, .int .i64 0, .int .i64 4] 41)).alloc (.cells #[.bool true, .bool false] 4)).alloc (.cells #[.int .i64 3] 3)).alloc (.cells #[.int .i64 0, .int .i64 0, .int .i64 4, .int .i64 4, .int .i64 0, .int .i64 4] 41)).alloc (.cells #[.bool false, .bool false] 4)).alloc (.cells #[.int .i64 1, .slice (some ⟨w.heap.size + 1 + 1 + 1 + 1, 0, none⟩) 2 2, .slice (some ⟨w.heap.size + 1 + 1 + 1 + 1 + 1, 0, none⟩) 2 2, .int .i64 2, .int .i64 0, .int .i64 0, .int .i64 0, .slice (some ⟨w.heap.size + 1 + 1 + 1 + 1 + 1 + 1, 0, none⟩) 1 1, .string ⟨#[]⟩, .int .i64 1, .slice (some ⟨w.heap.size + 1 + 1 + 1 + 1 + 1 + 1 + 1, 0, none⟩) 2 2, .slice (some ⟨w.heap.size + 1 + 1 + 1 + 1 + 1 + 1 + 1 + 1, 0, none⟩) 2 2, .int .i64 2, .int .i64 0, .int .i64 0, .int .i64 0, .slice none 0 0, .string ⟨#[]⟩] 51)).alloc (.cells #[.slice (some ⟨w.heap.size + 1 + 1 + 1 + 1 + 1 + 1 + 1 + 1 + 1, 0, none⟩) 2 2] 26)).heap.size := lt_of_block t0
  have z1 : w.heap.size + 1 < (((((((((((w.alloc (.cells #[.int .i64 0, .int .i64 0, .int .i64 4] 41)).alloc (.cells #[.int .i64 2, .int .i64 0, .int .i64 4] 41)).alloc (.cells #[.int .i64 4, .int .i64 0, .int .i64 4] 41)).alloc (.cells #[.int .i64 2, .int .i64 0, .int .i64 0, .int .i64 0] 49)).alloc (.cells #[.int .i64 0, .int .i64 0, .int .i64 4, .int .i64 2, .int .i64 0, .int .i64 4] 41)).alloc (.cells #[.bool true, .bool false] 4)).alloc (.cells #[.int .i64 3] 3)).alloc (.cells #[.int .i64 0, .int .i64 0, .int .i64 4, .int .i64 4, .int .i64 0, .int .i64 4] 41)).alloc (.cells #[.bool false, .bool false] 4)).alloc (.cells #[.int .i64 1, .slice (some ⟨w.heap.size + 1 + 1 + 1 + 1, 0, none⟩) 2 2, .slice (some ⟨w.heap.size + 1 + 1 + 1 + 1 + 1, 0, none⟩) 2 2, .int .i64 2, .int .i64 0, .int .i64 0, .int .i64 0, .slice (some ⟨w.heap.size + 1 + 1 + 1 + 1 + 1 + 1, 0, none⟩) 1 1, .string ⟨#[]⟩, .int .i64 1, .slice (some ⟨w.heap.size + 1 + 1 + 1 + 1 + 1 + 1 + 1, 0, none⟩) 2 2, .slice (some ⟨w.heap.size + 1 + 1 + 1 + 1 + 1 + 1 + 1 + 1, 0, none⟩) 2 2, .int .i64 2, .int .i64 0, .int .i64 0, .int .i64 0, .slice none 0 0, .string ⟨#[]⟩] 51)).alloc (.cells #[.slice (some ⟨w.heap.size + 1 + 1 + 1 + 1 + 1 + 1 + 1 + 1 + 1, 0, none⟩) 2 2] 26)).heap.size := lt_of_block t1
  have z2 : w.heap.size + 1 + 1 < (((((((((((w.alloc (.cells #[.int .i64 0, .int .i64 0, .int .i64 4] 41)).alloc (.cells #[.int .i64 2, .int .i64 0, .int .i64 4] 41)).alloc (.cells #[.int .i64 4, .int .i64 0, .int .i64 4] 41)).alloc (.cells #[.int .i64 2, .int .i64 0, .int .i64 0, .int .i64 0] 49)).alloc (.cells #[.int .i64 0, .int .i64 0, .int .i64 4, .int .i64 2, .int .i64 0, .int .i64 4] 41)).alloc (.cells #[.bool true, .bool false] 4)).alloc (.cells #[.int .i64 3] 3)).alloc (.cells #[.int .i64 0, .int .i64 0, .int .i64 4, .int .i64 4, .int .i64 0, .int .i64 4] 41)).alloc (.cells #[.bool false, .bool false] 4)).alloc (.cells #[.int .i64 1, .slice (some ⟨w.heap.size + 1 + 1 + 1 + 1, 0, none⟩) 2 2, .slice (some ⟨w.heap.size + 1 + 1 + 1 + 1 + 1, 0, none⟩) 2 2, .int .i64 2, .int .i64 0, .int .i64 0, .int .i64 0, .slice (some ⟨w.heap.size + 1 + 1 + 1 + 1 + 1 + 1, 0, none⟩) 1 1, .string ⟨#[]⟩, .int .i64 1, .slice (some ⟨w.heap.size + 1 + 1 + 1 + 1 + 1 + 1 + 1, 0, none⟩) 2 2, .slice (some ⟨w.heap.size + 1 + 1 + 1 + 1 + 1 + 1 + 1 + 1, 0, none⟩) 2 2, .int .i64 2, .int .i64 0, .int .i64 0, .int .i64 0, .slice none 0 0, .string ⟨#[]⟩] 51)).alloc (.cells #[.slice (some ⟨w.heap.size + 1 + 1 + 1 + 1 + 1 + 1 + 1 + 1 + 1, 0, none⟩) 2 2] 26)).heap.size := lt_of_block t2
  have z3 : w.heap.size + 1 + 1 + 1 < (((((((((((w.alloc (.cells #[.int .i64 0, .int .i64 0, .int .i64 4] 41)).alloc (.cells #[.int .i64 2, .int .i64 0, .int .i64 4] 41)).alloc (.cells #[.int .i64 4, .int .i64 0, .int .i64 4] 41)).alloc (.cells #[.int .i64 2, .int .i64 0, .int .i64 0, .int .i64 0] 49)).alloc (.cells #[.int .i64 0, .int .i64 0, .int .i64 4, .int .i64 2, .int .i64 0, .int .i64 4] 41)).alloc (.cells #[.bool true, .bool false] 4)).alloc (.cells #[.int .i64 3] 3)).alloc (.cells #[.int .i64 0, .int .i64 0, .int .i64 4, .int .i64 4, .int .i64 0, .int .i64 4] 41)).alloc (.cells #[.bool false, .bool false] 4)).alloc (.cells #[.int .i64 1, .slice (some ⟨w.heap.size + 1 + 1 + 1 + 1, 0, none⟩) 2 2, .slice (some ⟨w.heap.size + 1 + 1 + 1 + 1 + 1, 0, none⟩) 2 2, .int .i64 2, .int .i64 0, .int .i64 0, .int .i64 0, .slice (some ⟨w.heap.size + 1 + 1 + 1 + 1 + 1 + 1, 0, none⟩) 1 1, .string ⟨#[]⟩, .int .i64 1, .slice (some ⟨w.heap.size + 1 + 1 + 1 + 1 + 1 + 1 + 1, 0, none⟩) 2 2, .slice (some ⟨w.heap.size + 1 + 1 + 1 + 1 + 1 + 1 + 1 + 1, 0, none⟩) 2 2, .int .i64 2, .int .i64 0, .int .i64 0, .int .i64 0, .slice none 0 0, .string ⟨#[]⟩] 51)).alloc (.cells #[.slice (some ⟨w.heap.size + 1 + 1 + 1 + 1 + 1 + 1 + 1 + 1 + 1, 0, none⟩) 2 2] 26)).heap.size := lt_of_block t3
  have z4 : w.heap.size + 1 + 1 + 1 + 1 < (((((((((((w.alloc (.cells #[.int .i64 0, .int .i64 0, .int .i64 4] 41)).alloc (.cells #[.int .i64 2, .int .i64 0, .int .i64 4] 41)).alloc (.cells #[.int .i64 4, .int .i64 0, .int .i64 4] 41)).alloc (.cells #[.int .i64 2, .int .i64 0, .int .i64 0, .int .i64 0] 49)).alloc (.cells #[.int .i64 0, .int .i64 0, .int .i64 4, .int .i64 2, .int .i64 0, .int .i64 4] 41)).alloc (.cells #[.bool true, .bool false] 4)).alloc (.cells #[.int .i64 3] 3)).alloc (.cells #[.int .i64 0, .int .i64 0, .int .i64 4, .int .i64 4, .int .i64 0, .int .i64 4] 41)).alloc (.cells #[.bool false, .bool false] 4)).alloc (.cells #[.int .i64 1, .slice (some ⟨w.heap.size + 1 + 1 + 1 + 1, 0, none⟩) 2 2, .slice (some ⟨w.heap.size + 1 + 1 + 1 + 1 + 1, 0, none⟩) 2 2, .int .i64 2, .int .i64 0, .int .i64 0, .int .i64 0, .slice (some ⟨w.heap.size + 1 + 1 + 1 + 1 + 1 + 1, 0, none⟩) 1 1, .string ⟨#[]⟩, .int .i64 1, .slice (some ⟨w.heap.size + 1 + 1 + 1 + 1 + 1 + 1 + 1, 0, none⟩) 2 2, .slice (some ⟨w.heap.size + 1 + 1 + 1 + 1 + 1 + 1 + 1 + 1, 0, none⟩) 2 2, .int .i64 2, .int .i64 0, .int .i64 0, .int .i64 0, .slice none 0 0, .string ⟨#[]⟩] 51)).alloc (.cells #[.slice (some ⟨w.heap.size + 1 + 1 + 1 + 1 + 1 + 1 + 1 + 1 + 1, 0, none⟩) 2 2] 26)).heap.size := lt_of_block t4
  have z5 : w.heap.size + 1 + 1 + 1 + 1 + 1 < (((((((((((w.alloc (.cells #[.int .i64 0, .int .i64 0, .int .i64 4] 41)).alloc (.cells #[.int .i64 2, .int .i64 0, .int .i64 4] 41)).alloc (.cells #[.int .i64 4, .int .i64 0, .int .i64 4] 41)).alloc (.cells #[.int .i64 2, .int .i64 0, .int .i64 0, .int .i64 0] 49)).alloc (.cells #[.int .i64 0, .int .i64 0, .int .i64 4, .int .i64 2, .int .i64 0, .int .i64 4] 41)).alloc (.cells #[.bool true, .bool false] 4)).alloc (.cells #[.int .i64 3] 3)).alloc (.cells #[.int .i64 0, .int .i64 0, .int .i64 4, .int .i64 4, .int .i64 0, .int .i64 4] 41)).alloc (.cells #[.bool false, .bool false] 4)).alloc (.cells #[.int .i64 1, .slice (some ⟨w.heap.size + 1 + 1 + 1 + 1, 0, none⟩) 2 2, .slice (some ⟨w.heap.size + 1 + 1 + 1 + 1 + 1, 0, none⟩) 2 2, .int .i64 2, .int .i64 0, .int .i64 0, .int .i64 0, .slice (some ⟨w.heap.size + 1 + 1 + 1 + 1 + 1 + 1, 0, none⟩) 1 1, .string ⟨#[]⟩, .int .i64 1, .slice (some ⟨w.heap.size + 1 + 1 + 1 + 1 + 1 + 1 + 1, 0, none⟩) 2 2, .slice (some ⟨w.heap.size + 1 + 1 + 1 + 1 + 1 + 1 + 1 + 1, 0, none⟩) 2 2, .int .i64 2, .int .i64 0, .int .i64 0, .int .i64 0, .slice none 0 0, .string ⟨#[]⟩] 51)).alloc (.cells #[.slice (some ⟨w.heap.size + 1 + 1 + 1 + 1 + 1 + 1 + 1 + 1 + 1, 0, none⟩) 2 2] 26)).heap.size := lt_of_block t5
  have z6 : w.heap.size + 1 + 1 + 1 + 1 + 1 + 1 < (((((((((((w.alloc (.cells #[.int .i64 0, .int .i64 0, .int .i64 4] 41)).alloc (.cells #[.int .i64 2, .int .i64 0, .int .i64 4] 41)).alloc (.cells #[.int .i64 4, .int .i64 0, .int .i64 4] 41)).alloc (.cells #[.int .i64 2, .int .i64 0, .int .i64 0, .int .i64 0] 49)).alloc (.cells #[.int .i64 0, .int .i64 0, .int .i64 4, .int .i64 2, .int .i64 0, .int .i64 4] 41)).alloc (.cells #[.bool true, .bool false] 4)).alloc (.cells #[.int .i64 3] 3)).alloc (.cells #[.int .i64 0, .int .i64 0, .int .i64 4, .int .i64 4, .int .i64 0, .int .i64 4] 41)).alloc (.cells #[.bool false, .bool false] 4)).alloc (.cells #[.int .i64 1, .slice (some ⟨w.heap.size + 1 + 1 + 1 + 1, 0, none⟩) 2 2, .slice (some ⟨w.heap.size + 1 + 1 + 1 + 1 + 1, 0, none⟩) 2 2, .int .i64 2, .int .i64 0, .int .i64 0, .int .i64 0, .slice (some ⟨w.heap.size + 1 + 1 + 1 + 1 + 1 + 1, 0, none⟩) 1 1, .string ⟨#[]⟩, .int .i64 1, .slice (some ⟨w.heap.size + 1 + 1 + 1 + 1 + 1 + 1 + 1, 0, none⟩) 2 2, .slice (some ⟨w.heap.size + 1 + 1 + 1 + 1 + 1 + 1 + 1 + 1, 0, none⟩) 2 2, .int .i64 2, .int .i64 0, .int .i64 0, .int .i64 0, .slice none 0 0, .string ⟨#[]⟩] 51)).alloc (.cells #[.slice (some ⟨w.heap.size + 1 + 1 + 1 + 1 + 1 + 1 + 1 + 1 + 1, 0, none⟩) 2 2] 26)).heap.size := lt_of_block t6
  have z7 : w.heap.size + 1 + 1 + 1 + 1 + 1 + 1 + 1 < (((((((((((w.alloc (.cells #[.int .i64 0, .int .i64 0, .int .i64 4] 41)).alloc (.cells #[.int .i64 2, .int .i64 0, .int .i64 4] 41)).alloc (.cells #[.int .i64 4, .int .i64 0, .int .i64 4] 41)).alloc (.cells #[.int .i64 2, .int .i64 0, .int .i64 0, .int .i64 0] 49)).alloc (.cells #[.int .i64 0, .int .i64 0, .int .i64 4, .int .i64 2, .int .i64 0, .int .i64 4] 41)).alloc (.cells #[.bool true, .bool false] 4)).alloc (.cells #[.int .i64 3] 3)).alloc (.cells #[.int .i64 0, .int .i64 0, .int .i64 4, .int .i64 4, .int .i64 0, .int .i64 4] 41)).alloc (.cells #[.bool false, .bool false] 4)).alloc (.cells #[.int .i64 1, .slice (some ⟨w.heap.size + 1 + 1 + 1 + 1, 0, none⟩) 2 2, .slice (some ⟨w.heap.size + 1 + 1 + 1 + 1 + 1, 0, none⟩) 2 2, .int .i64 2, .int .i64 0, .int .i64 0, .int .i64 0, .slice (some ⟨w.heap.size + 1 + 1 + 1 + 1 + 1 + 1, 0, none⟩) 1 1, .string ⟨#[]⟩, .int .i64 1, .slice (some ⟨w.heap.size + 1 + 1 + 1 + 1 + 1 + 1 + 1, 0, none⟩) 2 2, .slice (some ⟨w.heap.size + 1 + 1 + 1 + 1 + 1 + 1 + 1 + 1, 0, none⟩) 2 2, .int .i64 2, .int .i64 0, .int .i64 0, .int .i64 0, .slice none 0 0, .string ⟨#[]⟩] 51)).alloc (.cells #[.slice (some ⟨w.heap.size + 1 + 1 + 1 + 1 + 1 + 1 + 1 + 1 + 1, 0, none⟩) 2 2] 26)).heap.size := lt_of_block t7
  have z8 : w.heap.size + 1 + 1 + 1 + 1 + 1 + 1 + 1 + 1 < (((((((((((w.alloc (.cells #[.int .i64 0, .int .i64 0, .int .i64 4] 41)).alloc (.cells #[.int .i64 2, .int .i64 0, .int .i64 4] 41)).alloc (.cells #[.int .i64 4, .int .i64 0, .int .i64 4] 41)).alloc (.cells #[.int .i64 2, .int .i64 0, .int .i64 0, .int .i64 0] 49)).alloc (.cells #[.int .i64 0, .int .i64 0, .int .i64 4, .int .i64 2, .int .i64 0, .int .i64 4] 41)).alloc (.cells #[.bool true, .bool false] 4)).alloc (.cells #[.int .i64 3] 3)).alloc (.cells #[.int .i64 0, .int .i64 0, .int .i64 4, .int .i64 4, .int .i64 0, .int .i64 4] 41)).alloc (.cells #[.bool false, .bool false] 4)).alloc (.cells #[.int .i64 1, .slice (some ⟨w.heap.size + 1 + 1 + 1 + 1, 0, none⟩) 2 2, .slice (some ⟨w.heap.size + 1 + 1 + 1 + 1 + 1, 0, none⟩) 2 2, .int .i64 2, .int .i64 0, .int .i64 0, .int .i64 0, .slice (some ⟨w.heap.size + 1 + 1 + 1 + 1 + 1 + 1, 0, none⟩) 1 1, .string ⟨#[]⟩, .int .i64 1, .slice (some ⟨w.heap.size + 1 + 1 + 1 + 1 + 1 + 1 + 1, 0, none⟩) 2 2, .slice (some ⟨w.heap.size + 1 + 1 + 1 + 1 + 1 + 1 + 1 + 1, 0, none⟩) 2 2, .int .i64 2, .int .i64 0, .int .i64 0, .int .i64 0, .slice none 0 0, .string ⟨#[]⟩] 51)).alloc (.cells #[.slice (some ⟨w.heap.size + 1 + 1 + 1 + 1 + 1 + 1 + 1 + 1 + 1, 0, none⟩) 2 2] 26)).heap.size := lt_of_block t8
  have z9 : w.heap.size + 1 + 1 + 1 + 1 + 1 + 1 + 1 + 1 + 1 < (((((((((((w.alloc (.cells #[.int .i64 0, .int .i64 0, .int .i64 4] 41)).alloc (.cells #[.int .i64 2, .int .i64 0, .int .i64 4] 41)).alloc (.cells #[.int .i64 4, .int .i64 0, .int .i64 4] 41)).alloc (.cells #[.int .i64 2, .int .i64 0, .int .i64 0, .int .i64 0] 49)).alloc (.cells #[.int .i64 0, .int .i64 0, .int .i64 4, .int .i64 2, .int .i64 0, .int .i64 4] 41)).alloc (.cells #[.bool true, .bool false] 4)).alloc (.cells #[.int .i64 3] 3)).alloc (.cells #[.int .i64 0, .int .i64 0, .int .i64 4, .int .i64 4, .int .i64 0, .int .i64 4] 41)).alloc (.cells #[.bool false, .bool false] 4)).alloc (.cells #[.int .i64 1, .slice (some ⟨w.heap.size + 1 + 1 + 1 + 1, 0, none⟩) 2 2, .slice (some ⟨w.heap.size + 1 + 1 + 1 + 1 + 1, 0, none⟩) 2 2, .int .i64 2, .int .i64 0, .int .i64 0, .int .i64 0, .slice (some ⟨w.heap.size + 1 + 1 + 1 + 1 + 1 + 1, 0, none⟩) 1 1, .string ⟨#[]⟩, .int .i64 1, .slice (some ⟨w.heap.size + 1 + 1 + 1 + 1 + 1 + 1 + 1, 0, none⟩) 2 2, .slice (some ⟨w.heap.size + 1 + 1 + 1 + 1 + 1 + 1 + 1 + 1, 0, none⟩) 2 2, .int .i64 2, .int .i64 0, .int .i64 0, .int .i64 0, .slice none 0 0, .string ⟨#[]⟩] 51)).alloc (.cells #[.slice (some ⟨w.heap.size + 1 + 1 + 1 + 1 + 1 + 1 + 1 + 1 + 1, 0, none⟩) 2 2] 26)).heap.size := lt_of_block t9
  have z10 : w.heap.size + 1 + 1 + 1 + 1 + 1 + 1 + 1 + 1 + 1 + 1 < (((((((((((w.alloc (.cells #[.int .i64 0, .int .i64 0, .int .i64 4] 41)).alloc (.cells #[.int .i64 2, .int .i64 0, .int .i64 4] 41)).alloc (.cells #[.int .i64 4, .int .i64 0, .int .i64 4] 41)).alloc (.cells #[.int .i64 2, .int .i64 0, .int .i64 0, .int .i64 0] 49)).alloc (.cells #[.int .i64 0, .int .i64 0, .int .i64 4, .int .i64 2, .int .i64 0, .int .i64 4] 41)).alloc (.cells #[.bool true, .bool false] 4)).alloc (.cells #[.int .i64 3] 3)).alloc (.cells #[.int .i64 0, .int .i64 0, .int .i64 4, .int .i64 4, .int .i64 0, .int .i64 4] 41)).alloc (.cells #[.bool false, .bool false] 4)).alloc (.cells #[.int .i64 1, .slice (some ⟨w.heap.size + 1 + 1 + 1 + 1, 0, none⟩) 2 2, .slice (some ⟨w.heap.size + 1 + 1 + 1 + 1 + 1, 0, none⟩) 2 2, .int .i64 2, .int .i64 0, .int .i64 0, .int .i64 0, .slice (some ⟨w.heap.size + 1 + 1 + 1 + 1 + 1 + 1, 0, none⟩) 1 1, .string ⟨#[]⟩, .int .i64 1, .slice (some ⟨w.heap.size + 1 + 1 + 1 + 1 + 1 + 1 + 1, 0, none⟩) 2 2, .slice (some ⟨w.heap.size + 1 + 1 + 1 + 1 + 1 + 1 + 1 + 1, 0, none⟩) 2 2, .int .i64 2, .int .i64 0, .int .i64 0, .int .i64 0, .slice none 0 0, .string ⟨#[]⟩] 51)).alloc (.cells #[.slice (some ⟨w.heap.size + 1 + 1 + 1 + 1 + 1 + 1 + 1 + 1 + 1, 0, none⟩) 2 2] 26)).heap.size := lt_of_block t10
  clear t0 t1 t2 t3 t4 t5 t6 t7 t8 t9 t10
  have HB1 := Lib.hid hB1
  clear hB1
  generalize (((((((((((w.alloc (.cells #[.int .i64 0, .int .i64 0, .int .i64 4] 41)).alloc (.cells #[.int .i64 2, .int .i64 0, .int .i64 4] 41)).alloc (.cells #[.int .i64 4, .int .i64 0, .int .i64 4] 41)).alloc (.cells #[.int .i64 2, .int .i64 0, .int .i64 0, .int .i64 0] 49)).alloc (.cells #[.int .i64 0, .int .i64 0, .int .i64 4, .int .i64 2, .int .i64 0, .int .i64 4] 41)).alloc (.cells #[.bool true, .bool false] 4)).alloc (.cells #[.int .i64 3] 3)).alloc (.cells #[.int .i64 0, .int .i64 0, .int .i64 4, .int .i64 4, .int .i64 0, .int .i64 4] 41)).alloc (.cells #[.bool false, .bool false] 4)).alloc (.cells #[.int .i64 1, .slice (some ⟨w.heap.size + 1 + 1 + 1 + 1, 0, none⟩) 2 2, .slice (some ⟨w.heap.size + 1 + 1 + 1 + 1 + 1, 0, none⟩) 2 2, .int .i64 2, .int .i64 0, .int .i64 0, .int .i64 0, .slice (some ⟨w.heap.size + 1 + 1 + 1 + 1 + 1 + 1, 0, none⟩) 1 1, .string ⟨#[]⟩, .int .i64 1, .slice (some ⟨w.heap.size + 1 + 1 + 1 + 1 + 1 + 1 + 1, 0, none⟩) 2 2, .slice (some ⟨w.heap.size + 1 + 1 + 1 + 1 + 1 + 1 + 1 + 1, 0, none⟩) 2 2, .int .i64 2, .int .i64 0, .int .i64 0, .int .i64 0, .slice none 0 0, .string ⟨#[]⟩] 51)).alloc (.cells #[.slice (some ⟨w.heap.size + 1 + 1 + 1 + 1 + 1 + 1 + 1 + 1 + 1, 0, none⟩) 2 2] 26)) = w1 at *
  go_cut [6] (fun p wx => VoAt [(⟨1, [(0, 0, 4), (2, 0, 4)], [true, false], 2, 0, 0, 0, [3], ⟨#[]⟩⟩ : Ev), (⟨0, [], [], 2, 0, 0, 0, [], ⟨#[]⟩⟩ : Ev)] w1 p wx)
  case first =>
    have d_c_0 := cell_drew c_c_0
    have d_c_1 := cell_drew c_c_1
    have d_c_2 := cell_drew c_c_2
    have d_f_0 := cell_drew c_f_0
    have d_f_1 := cell_drew c_f_1
    have d_f_2 := cell_drew c_f_2
    have d_g_0 := cell_drew c_g_0
    have d_g_1 := cell_drew c_g_1
    have d_g_2 := cell_drew c_g_2
    have d_q_0 := cell_drew c_q_0
    have d_q_1 := cell_drew c_q_1
    have d_q_2 := cell_drew c_q_2
    have d_q_3 := cell_drew c_q_3
    have d_a_0 := cell_drew c_a_0
    have d_e_0 := cell_drew c_e_0
    have d_e_1 := cell_drew c_e_1
    have d_e_2 := cell_drew c_e_2
    have d_e_3 := cell_drew c_e_3
    have d_e_4 := cell_drew c_e_4
    have d_e_5 := cell_drew c_e_5
    have d_e_6 := cell_drew c_e_6
    have d_e_7 := cell_drew c_e_7
    have d_e_8 := cell_drew c_e_8
    go_region
    all_goals
      go_wp2_with fail
      go_meet
      case rel =>
        first
          | exact voAt_of HEA.out (by repeat (first | exact Below.refl _ _ | refine Below.drew ?_ | refine Below.alloc ?_ (by simp <;> omega) _)) (news2 w1 _ _).2 (news2 w1 _ _).1
          | exact voAt_of HEA.out (by repeat (first | exact Below.refl _ _ | refine Below.drew ?_ | refine Below.alloc ?_ (by simp <;> omega) _)) (news2 w1 _ _).1 (news2 w1 _ _).2
  case rest =>
  obtain ⟨Bb, vb, yb, rfl, c_b_0, heb, hmb, hbc⟩ := hcut
  obtain ⟨pb, cb, rfl, _⟩ := sl_shape heb.row
  have HEB := Lib.hid heb
  have HMB := Lib.hid hmb
  clear heb hmb
  replace c_c_0 := cell_later hbc c_c_0
  replace c_c_1 := cell_later hbc c_c_1
  replace c_c_2 := cell_later hbc c_c_2
  replace c_f_0 := cell_later hbc c_f_0
  replace c_f_1 := cell_later hbc c_f_1
  replace c_f_2 := cell_later hbc c_f_2
  replace c_g_0 := cell_later hbc c_g_0
  replace c_g_1 := cell_later hbc c_g_1
  replace c_g_2 := cell_later hbc c_g_2
  replace c_q_0 := cell_later hbc c_q_0
  replace c_q_1 := cell_later hbc c_q_1
  replace c_q_2 := cell_later hbc c_q_2
  replace c_q_3 := cell_later hbc c_q_3
  replace c_a_0 := cell_later hbc c_a_0
  replace c_e_0 := cell_later hbc c_e_0
  replace c_e_1 := cell_later hbc c_e_1
  replace c_e_2 := cell_later hbc c_e_2
  replace c_e_3 := cell_later hbc c_e_3
  replace c_e_4 := cell_later hbc c_e_4
  replace c_e_5 := cell_later hbc c_e_5
  replace c_e_6 := cell_later hbc c_e_6
  replace c_e_7 := cell_later hbc c_e_7
  replace c_e_8 := cell_later hbc c_e_8
  have hlb : yb.length = 2 := by have := congrArg List.length HMB.out; simpa using this
  rw [hlb] at c_b_0
  rw [hlb] at HEB
  have hB2 : Below w.heap.size w wc := HB1.out.trans (hbc.mono HB1.out.size)
  replace HEA := Lib.hid (HEA.out.later hbc)
  clear z0 z1 z2 z3 z4 z5 z6 z7 z8 z9 z10 HB1 hbc hlb
  clear c_e_0 c_e_1 c_e_2 c_e_3 c_e_4 c_e_5 c_e_6 c_e_7 c_e_8
  have z_a : w.heap.size + 1 + 1 + 1 + 1 + 1 + 1 + 1 + 1 + 1 + 1 < _ := World.block_lt_of_cell? _ _ c_a_0
  have z_b : Bb < _ := World.block_lt_of_cell? _ _ c_b_0
  have z_c : w.heap.size < _ := World.block_lt_of_cell? _ _ c_c_0
  have z_f : w.heap.size + 1 < _ := World.block_lt_of_cell? _ _ c_f_0
  have z_g : w.heap.size + 1 + 1 < _ := World.block_lt_of_cell? _ _ c_g_0
  have z_q : w.heap.size + 1 + 1 + 1 < _ := World.block_lt_of_cell? _ _ c_q_0
  go_wp2_with fail
  have hR' := hR.below hB2
  refine (vlength_is (ex_end _ _ _ _ _ _) _ _ HEA.out hR'.lib).mono ?_
  rintro e w3 ⟨rfl, hb3⟩
  clear hR'
  have hs3 := hb3
  replace HEA := Lib.hid (HEA.out.later hs3)
  replace HEB := Lib.hid (HEB.out.later hs3)
  replace c_c_0 := cell_later hs3 c_c_0
  replace c_c_1 := cell_later hs3 c_c_1
  replace c_c_2 := cell_later hs3 c_c_2
  replace c_f_0 := cell_later hs3 c_f_0
  replace c_f_1 := cell_later hs3 c_f_1
  replace c_f_2 := cell_later hs3 c_f_2
  replace c_g_0 := cell_later hs3 c_g_0
  replace c_g_1 := cell_later hs3 c_g_1
  replace c_g_2 := cell_later hs3 c_g_2
  replace c_q_0 := cell_later hs3 c_q_0
  replace c_q_1 := cell_later hs3 c_q_1
  replace c_q_2 := cell_later hs3 c_q_2
  replace c_q_3 := cell_later hs3 c_q_3
  replace c_a_0 := cell_later hs3 c_a_0
  replace c_b_0 := cell_later hs3 c_b_0
  clear z_a
  have z_a : w.heap.size + 1 + 1 + 1 + 1 + 1 + 1 + 1 + 1 + 1 + 1 < _ := World.block_lt_of_cell? _ _ c_a_0
  clear z_b
  have z_b : Bb < _ := World.block_lt_of_cell? _ _ c_b_0
  clear z_c
  have z_c : w.heap.size < _ := World.block_lt_of_cell? _ _ c_c_0
  clear z_f
  have z_f : w.heap.size + 1 < _ := World.block_lt_of_cell? _ _ c_f_0
  clear z_g
  have z_g : w.heap.size + 1 + 1 < _ := World.block_lt_of_cell? _ _ c_g_0
  clear z_q
  have z_q : w.heap.size + 1 + 1 + 1 < _ := World.block_lt_of_cell? _ _ c_q_0
  have hB3 := below_two hB2 hs3
  clear hB2 hs3
  go_wp2_with fail
  have hR' := hR.below (hB3.alloc hB3.size (.cells #[.int .i64 1, .int .i64 2] 36))
  refine (vstarts_ok (ex_err _ _ _ _ _ _) (ex_starts _ _ _ _ _ _) _ _ (HEA.out.later (by repeat (first | exact Below.refl _ _ | refine Below.alloc ?_ (by simp <;> omega) _))) hR'.lib).mono ?_
  rintro e w4 ⟨⟨ps, cs, rfl, hst⟩, hb4⟩
  clear hR'
  have hs4 : Below w3.heap.size w3 w4 := Below.trans (by repeat (first | exact Below.refl _ _ | refine Below.alloc ?_ (by simp <;> omega) _)) (hb4.mono (by simp <;> omega))
  replace HEA := Lib.hid (HEA.out.later hs4)
  replace HEB := Lib.hid (HEB.out.later hs4)
  replace c_c_0 := cell_later hs4 c_c_0
  replace c_c_1 := cell_later hs4 c_c_1
  replace c_c_2 := cell_later hs4 c_c_2
  replace c_f_0 := cell_later hs4 c_f_0
  replace c_f_1 := cell_later hs4 c_f_1
  replace c_f_2 := cell_later hs4 c_f_2
  replace c_g_0 := cell_later hs4 c_g_0
  replace c_g_1 := cell_later hs4 c_g_1
  replace c_g_2 := cell_later hs4 c_g_2
  replace c_q_0 := cell_later hs4 c_q_0
  replace c_q_1 := cell_later hs4 c_q_1
  replace c_q_2 := cell_later hs4 c_q_2
  replace c_q_3 := cell_later hs4 c_q_3
  replace c_a_0 := cell_later hs4 c_a_0
  replace c_b_0 := cell_later hs4 c_b_0
  have c_l_0 : w4.cell? ⟨w3.heap.size, 0, none⟩ = some (.int .i64 1) := (hb4.cell (by simp <;> omega)).trans (by go_simp)
  have c_l_1 : w4.cell? ⟨w3.heap.size, 1, none⟩ = some (.int .i64 2) := (hb4.cell (by simp <;> omega)).trans (by go_simp)
  clear z_a
  have z_a : w.heap.size + 1 + 1 + 1 + 1 + 1 + 1 + 1 + 1 + 1 + 1 < _ := World.block_lt_of_cell? _ _ c_a_0
  clear z_b
  have z_b : Bb < _ := World.block_lt_of_cell? _ _ c_b_0
  clear z_c
  have z_c : w.heap.size < _ := World.block_lt_of_cell? _ _ c_c_0
  clear z_f
  have z_f : w.heap.size + 1 < _ := World.block_lt_of_cell? _ _ c_f_0
  clear z_g
  have z_g : w.heap.size + 1 + 1 < _ := World.block_lt_of_cell? _ _ c_g_0
  have z_l : w3.heap.size < _ := World.block_lt_of_cell? _ _ c_l_0
  clear z_q
  have z_q : w.heap.size + 1 + 1 + 1 < _ := World.block_lt_of_cell? _ _ c_q_0
  have hB4 := below_two hB3 hs4
  clear hB3 hs4 hb4
  obtain ⟨bs, os, es, hs_0, hs_1⟩ := rats_at hst (i := 1) rfl
  subst es
  rw [Nat.one_mul] at hs_0 hs_1
  dsimp only at hs_0 hs_1
  clear hst
  have z_ss : bs < _ := World.block_lt_of_cell? _ _ hs_0
  go_wp2_with fail
  have hR' := hR.below hB4
  refine (vsounds_ok (ex_err _ _ _ _ _ _) (ex_meas _ _ _ _ _ _) (ex_snd _ _ _ _ _ _) _ _ HEA.out hR'.lib).mono ?_
  rintro e w5 ⟨⟨po, co, m, rfl, hso, hsm⟩, hb5⟩
  clear hR'
  have hs5 := hb5
  replace HEA := Lib.hid (HEA.out.later hs5)
  replace HEB := Lib.hid (HEB.out.later hs5)
  replace c_c_0 := cell_later hs5 c_c_0
  replace c_c_1 := cell_later hs5 c_c_1
  replace c_c_2 := cell_later hs5 c_c_2
  replace c_f_0 := cell_later hs5 c_f_0
  replace c_f_1 := cell_later hs5 c_f_1
  replace c_f_2 := cell_later hs5 c_f_2
  replace c_g_0 := cell_later hs5 c_g_0
  replace c_g_1 := cell_later hs5 c_g_1
  replace c_g_2 := cell_later hs5 c_g_2
  replace c_q_0 := cell_later hs5 c_q_0
  replace c_q_1 := cell_later hs5 c_q_1
  replace c_q_2 := cell_later hs5 c_q_2
  replace c_q_3 := cell_later hs5 c_q_3
  replace c_a_0 := cell_later hs5 c_a_0
  replace c_b_0 := cell_later hs5 c_b_0
  replace c_l_0 := cell_later hs5 c_l_0
  replace c_l_1 := cell_later hs5 c_l_1
  replace hs_0 := cell_later hs5 hs_0
  replace hs_1 := cell_later hs5 hs_1
  clear z_a
  have z_a : w.heap.size + 1 + 1 + 1 + 1 + 1 + 1 + 1 + 1 + 1 + 1 < _ := World.block_lt_of_cell? _ _ c_a_0
  clear z_b
  have z_b : Bb < _ := World.block_lt_of_cell? _ _ c_b_0
  clear z_c
  have z_c : w.heap.size < _ := World.block_lt_of_cell? _ _ c_c_0
  clear z_f
  have z_f : w.heap.size + 1 < _ := World.block_lt_of_cell? _ _ c_f_0
  clear z_g
  have z_g : w.heap.size + 1 + 1 < _ := World.block_lt_of_cell? _ _ c_g_0
  clear z_l
  have z_l : w3.heap.size < _ := World.block_lt_of_cell? _ _ c_l_0
  clear z_q
  have z_q : w.heap.size + 1 + 1 + 1 < _ := World.block_lt_of_cell? _ _ c_q_0
  clear z_ss
  have z_ss : bs < _ := World.block_lt_of_cell? _ _ hs_0
  have hB5 := below_two hB4 hs5
  clear hB4 hs5
  obtain ⟨⟨y0, m0⟩, ⟨y1, m1⟩, ⟨y2, m2⟩, rfl⟩ : ∃ a b c, m = [a, b, c] := by
    rcases m with _ | ⟨a, _ | ⟨b, _ | ⟨c, _ | ⟨d, m⟩⟩⟩⟩ <;> simp at hsm
    exact ⟨_, _, _, rfl⟩
  simp only [List.map_cons, List.map_nil, List.cons.injEq, and_true] at hsm
  obtain ⟨rfl, rfl, rfl⟩ := hsm
  obtain ⟨pm, cm, em, _⟩ := sl_shape (hso.each _ List.mem_cons_self)
  have em : m0 = .slice pm 1 cm := em
  subst em
  obtain ⟨bo, oo, eo, ho⟩ := snds_at hso (i := 0) rfl
  subst eo
  obtain ⟨bo1, oo1, eo1, ho1⟩ := snds_at hso (i := 1) rfl
  cases eo1
  obtain ⟨bo2, oo2, eo2, ho2⟩ := snds_at hso (i := 2) rfl
  cases eo2
  have o_0 := ho 0 _ rfl
  have o_1 := ho 1 _ rfl
  have o_2 := ho 2 _ rfl
  have o_5 := ho 5 _ rfl
  have o_6 := ho 6 _ rfl
  have o_7 := ho 7 _ rfl
  have p_0 := ho1 0 _ rfl
  have p_1 := ho1 1 _ rfl
  have p_2 := ho1 2 _ rfl
  have p_5 := ho1 5 _ rfl
  have p_6 := ho1 6 _ rfl
  have q_0 := ho2 0 _ rfl
  have q_1 := ho2 1 _ rfl
  have q_2 := ho2 2 _ rfl
  have q_3 := ho2 3 _ rfl
  have q_4 := ho2 4 _ rfl
  clear ho ho1 ho2 hso
  simp only [Nat.zero_mul, Nat.one_mul, Nat.add_zero, Nat.reduceMul] at o_0 o_1 o_2 o_5 o_6 o_7 p_0 p_1 p_2 p_5 p_6 q_0 q_1 q_2 q_3 q_4
  have z_oo : bo < _ := World.block_lt_of_cell? _ _ o_0
  have z_pp := z_oo
  have z_qq := z_oo
  go_wp2_with fail
  have hR' := hR.below hB5
  refine (check_is (n := 0) (e := 71) (by rw [HMB.out]; exact ex_chk) _ _ HEB.out hR'.lib).mono ?_
  rintro e w6 ⟨rfl, hb6⟩
  clear hR'
  have hs6 := hb6
  replace HEA := Lib.hid (HEA.out.later hs6)
  replace HEB := Lib.hid (HEB.out.later hs6)
  replace c_c_0 := cell_later hs6 c_c_0
  replace c_c_1 := cell_later hs6 c_c_1
  replace c_c_2 := cell_later hs6 c_c_2
  replace c_f_0 := cell_later hs6 c_f_0
  replace c_f_1 := cell_later hs6 c_f_1
  replace c_f_2 := cell_later hs6 c_f_2
  replace c_g_0 := cell_later hs6 c_g_0
  replace c_g_1 := cell_later hs6 c_g_1
  replace c_g_2 := cell_later hs6 c_g_2
  replace c_q_0 := cell_later hs6 c_q_0
  replace c_q_1 := cell_later hs6 c_q_1
  replace c_q_2 := cell_later hs6 c_q_2
  replace c_q_3 := cell_later hs6 c_q_3
  replace c_a_0 := cell_later hs6 c_a_0
  replace c_b_0 := cell_later hs6 c_b_0
  replace c_l_0 := cell_later hs6 c_l_0
  replace c_l_1 := cell_later hs6 c_l_1
  replace hs_0 := cell_later hs6 hs_0
  replace hs_1 := cell_later hs6 hs_1
  replace o_0 := cell_later hs6 o_0
  replace o_1 := cell_later hs6 o_1
  replace o_2 := cell_later hs6 o_2
  replace o_5 := cell_later hs6 o_5
  replace o_6 := cell_later hs6 o_6
  replace o_7 := cell_later hs6 o_7
  replace p_0 := cell_later hs6 p_0
  replace p_1 := cell_later hs6 p_1
  replace p_2 := cell_later hs6 p_2
  replace p_5 := cell_later hs6 p_5
  replace p_6 := cell_later hs6 p_6
  replace q_0 := cell_later hs6 q_0
  replace q_1 := cell_later hs6 q_1
  replace q_2 := cell_later hs6 q_2
  replace q_3 := cell_later hs6 q_3
  replace q_4 := cell_later hs6 q_4
  clear z_a
  have z_a : w.heap.size + 1 + 1 + 1 + 1 + 1 + 1 + 1 + 1 + 1 + 1 < _ := World.block_lt_of_cell? _ _ c_a_0
  clear z_b
  have z_b : Bb < _ := World.block_lt_of_cell? _ _ c_b_0
  clear z_c
  have z_c : w.heap.size < _ := World.block_lt_of_cell? _ _ c_c_0
  clear z_f
  have z_f : w.heap.size + 1 < _ := World.block_lt_of_cell? _ _ c_f_0
  clear z_g
  have z_g : w.heap.size + 1 + 1 < _ := World.block_lt_of_cell? _ _ c_g_0
  clear z_l
  have z_l : w3.heap.size < _ := World.block_lt_of_cell? _ _ c_l_0
  clear z_oo
  have z_oo : bo < _ := World.block_lt_of_cell? _ _ o_0
  clear z_pp
  have z_pp : bo < _ := World.block_lt_of_cell? _ _ p_0
  clear z_q
  have z_q : w.heap.size + 1 + 1 + 1 < _ := World.block_lt_of_cell? _ _ c_q_0
  clear z_qq
  have z_qq : bo < _ := World.block_lt_of_cell? _ _ q_0
  clear z_ss
  have z_ss : bs < _ := World.block_lt_of_cell? _ _ hs_0
  have hB6 := below_two hB5 hs6
  clear hB5 hs6
  go_wp2_with fail
  have hR' := hR.below hB6
  refine (vat_is (by decide) (ex_at _ _ _ _ _ _) _ _ HEA.out hR'.lib).mono ?_
  rintro e w7 ⟨rfl, hb7⟩
  clear hR'
  have hs7 := hb7
  replace HEA := Lib.hid (HEA.out.later hs7)
  replace HEB := Lib.hid (HEB.out.later hs7)
  replace c_c_0 := cell_later hs7 c_c_0
  replace c_c_1 := cell_later hs7 c_c_1
  replace c_c_2 := cell_later hs7 c_c_2
  replace c_f_0 := cell_later hs7 c_f_0
  replace c_f_1 := cell_later hs7 c_f_1
  replace c_f_2 := cell_later hs7 c_f_2
  replace c_g_0 := cell_later hs7 c_g_0
  replace c_g_1 := cell_later hs7 c_g_1
  replace c_g_2 := cell_later hs7 c_g_2
  replace c_q_0 := cell_later hs7 c_q_0
  replace c_q_1 := cell_later hs7 c_q_1
  replace c_q_2 := cell_later hs7 c_q_2
  replace c_q_3 := cell_later hs7 c_q_3
  replace c_a_0 := cell_later hs7 c_a_0
  replace c_b_0 := cell_later hs7 c_b_0
  replace c_l_0 := cell_later hs7 c_l_0
  replace c_l_1 := cell_later hs7 c_l_1
  replace hs_0 := cell_later hs7 hs_0
  replace hs_1 := cell_later hs7 hs_1
  replace o_0 := cell_later hs7 o_0
  replace o_1 := cell_later hs7 o_1
  replace o_2 := cell_later hs7 o_2
  replace o_5 := cell_later hs7 o_5
  replace o_6 := cell_later hs7 o_6
  replace o_7 := cell_later hs7 o_7
  replace p_0 := cell_later hs7 p_0
  replace p_1 := cell_later hs7 p_1
  replace p_2 := cell_later hs7 p_2
  replace p_5 := cell_later hs7 p_5
  replace p_6 := cell_later hs7 p_6
  replace q_0 := cell_later hs7 q_0
  replace q_1 := cell_later hs7 q_1
  replace q_2 := cell_later hs7 q_2
  replace q_3 := cell_later hs7 q_3
  replace q_4 := cell_later hs7 q_4
  clear z_a
  have z_a : w.heap.size + 1 + 1 + 1 + 1 + 1 + 1 + 1 + 1 + 1 + 1 < _ := World.block_lt_of_cell? _ _ c_a_0
  clear z_b
  have z_b : Bb < _ := World.block_lt_of_cell? _ _ c_b_0
  clear z_c
  have z_c : w.heap.size < _ := World.block_lt_of_cell? _ _ c_c_0
  clear z_f
  have z_f : w.heap.size + 1 < _ := World.block_lt_of_cell? _ _ c_f_0
  clear z_g
  have z_g : w.heap.size + 1 + 1 < _ := World.block_lt_of_cell? _ _ c_g_0
  clear z_l
  have z_l : w3.heap.size < _ := World.block_lt_of_cell? _ _ c_l_0
  clear z_oo
  have z_oo : bo < _ := World.block_lt_of_cell? _ _ o_0
  clear z_pp
  have z_pp : bo < _ := World.block_lt_of_cell? _ _ p_0
  clear z_q
  have z_q : w.heap.size + 1 + 1 + 1 < _ := World.block_lt_of_cell? _ _ c_q_0
  clear z_qq
  have z_qq : bo < _ := World.block_lt_of_cell? _ _ q_0
  clear z_ss
  have z_ss : bs < _ := World.block_lt_of_cell? _ _ hs_0
  have hB7 := below_two hB6 hs7
  clear hB6 hs7
  go_wp2_with fail
  have hR' := hR.below hB7
  refine (vat_is (by decide) (ex_out _ _ _ _ _ _) _ _ HEA.out hR'.lib).mono ?_
  rintro e w8 ⟨rfl, hb8⟩
  clear hR'
  have hs8 := hb8
  replace HEA := Lib.hid (HEA.out.later hs8)
  replace HEB := Lib.hid (HEB.out.later hs8)
  replace c_c_0 := cell_later hs8 c_c_0
  replace c_c_1 := cell_later hs8 c_c_1
  replace c_c_2 := cell_later hs8 c_c_2
  replace c_f_0 := cell_later hs8 c_f_0
  replace c_f_1 := cell_later hs8 c_f_1
  replace c_f_2 := cell_later hs8 c_f_2
  replace c_g_0 := cell_later hs8 c_g_0
  replace c_g_1 := cell_later hs8 c_g_1
  replace c_g_2 := cell_later hs8 c_g_2
  replace c_q_0 := cell_later hs8 c_q_0
  replace c_q_1 := cell_later hs8 c_q_1
  replace c_q_2 := cell_later hs8 c_q_2
  replace c_q_3 := cell_later hs8 c_q_3
  replace c_a_0 := cell_later hs8 c_a_0
  replace c_b_0 := cell_later hs8 c_b_0
  replace c_l_0 := cell_later hs8 c_l_0
  replace c_l_1 := cell_later hs8 c_l_1
  replace hs_0 := cell_later hs8 hs_0
  replace hs_1 := cell_later hs8 hs_1
  replace o_0 := cell_later hs8 o_0
  replace o_1 := cell_later hs8 o_1
  replace o_2 := cell_later hs8 o_2
  replace o_5 := cell_later hs8 o_5
  replace o_6 := cell_later hs8 o_6
  replace o_7 := cell_later hs8 o_7
  replace p_0 := cell_later hs8 p_0
  replace p_1 := cell_later hs8 p_1
  replace p_2 := cell_later hs8 p_2
  replace p_5 := cell_later hs8 p_5
  replace p_6 := cell_later hs8 p_6
  replace q_0 := cell_later hs8 q_0
  replace q_1 := cell_later hs8 q_1
  replace q_2 := cell_later hs8 q_2
  replace q_3 := cell_later hs8 q_3
  replace q_4 := cell_later hs8 q_4
  clear z_a
  have z_a : w.heap.size + 1 + 1 + 1 + 1 + 1 + 1 + 1 + 1 + 1 + 1 < _ := World.block_lt_of_cell? _ _ c_a_0
  clear z_b
  have z_b : Bb < _ := World.block_lt_of_cell? _ _ c_b_0
  clear z_c
  have z_c : w.heap.size < _ := World.block_lt_of_cell? _ _ c_c_0
  clear z_f
  have z_f : w.heap.size + 1 < _ := World.block_lt_of_cell? _ _ c_f_0
  clear z_g
  have z_g : w.heap.size + 1 + 1 < _ := World.block_lt_of_cell? _ _ c_g_0
  clear z_l
  have z_l : w3.heap.size < _ := World.block_lt_of_cell? _ _ c_l_0
  clear z_oo
  have z_oo : bo < _ := World.block_lt_of_cell? _ _ o_0
  clear z_pp
  have z_pp : bo < _ := World.block_lt_of_cell? _ _ p_0
  clear z_q
  have z_q : w.heap.size + 1 + 1 + 1 < _ := World.block_lt_of_cell? _ _ c_q_0
  clear z_qq
  have z_qq : bo < _ := World.block_lt_of_cell? _ _ q_0
  clear z_ss
  have z_ss : bs < _ := World.block_lt_of_cell? _ _ hs_0
  have hB8 := below_two hB7 hs8
  clear hB7 hs8
  go_wp2_with fail
  have hR' := hR.below hB8
  refine (rests_is ex_meter ex_of (by omega) ex_kind ex_fills (by omega) _ _ (Sl.none _ _ _) hR').mono ?_
  rintro e w9 ⟨⟨ur, rfl, hre, _⟩, hb9⟩
  clear hR'
  have hs9 := hb9
  replace HEA := Lib.hid (HEA.out.later hs9)
  replace HEB := Lib.hid (HEB.out.later hs9)
  replace c_c_0 := cell_later hs9 c_c_0
  replace c_c_1 := cell_later hs9 c_c_1
  replace c_c_2 := cell_later hs9 c_c_2
  replace c_f_0 := cell_later hs9 c_f_0
  replace c_f_1 := cell_later hs9 c_f_1
  replace c_f_2 := cell_later hs9 c_f_2
  replace c_g_0 := cell_later hs9 c_g_0
  replace c_g_1 := cell_later hs9 c_g_1
  replace c_g_2 := cell_later hs9 c_g_2
  replace c_q_0 := cell_later hs9 c_q_0
  replace c_q_1 := cell_later hs9 c_q_1
  replace c_q_2 := cell_later hs9 c_q_2
  replace c_q_3 := cell_later hs9 c_q_3
  replace c_a_0 := cell_later hs9 c_a_0
  replace c_b_0 := cell_later hs9 c_b_0
  replace c_l_0 := cell_later hs9 c_l_0
  replace c_l_1 := cell_later hs9 c_l_1
  replace hs_0 := cell_later hs9 hs_0
  replace hs_1 := cell_later hs9 hs_1
  replace o_0 := cell_later hs9 o_0
  replace o_1 := cell_later hs9 o_1
  replace o_2 := cell_later hs9 o_2
  replace o_5 := cell_later hs9 o_5
  replace o_6 := cell_later hs9 o_6
  replace o_7 := cell_later hs9 o_7
  replace p_0 := cell_later hs9 p_0
  replace p_1 := cell_later hs9 p_1
  replace p_2 := cell_later hs9 p_2
  replace p_5 := cell_later hs9 p_5
  replace p_6 := cell_later hs9 p_6
  replace q_0 := cell_later hs9 q_0
  replace q_1 := cell_later hs9 q_1
  replace q_2 := cell_later hs9 q_2
  replace q_3 := cell_later hs9 q_3
  replace q_4 := cell_later hs9 q_4
  clear z_a
  have z_a : w.heap.size + 1 + 1 + 1 + 1 + 1 + 1 + 1 + 1 + 1 + 1 < _ := World.block_lt_of_cell? _ _ c_a_0
  clear z_b
  have z_b : Bb < _ := World.block_lt_of_cell? _ _ c_b_0
  clear z_c
  have z_c : w.heap.size < _ := World.block_lt_of_cell? _ _ c_c_0
  clear z_f
  have z_f : w.heap.size + 1 < _ := World.block_lt_of_cell? _ _ c_f_0
  clear z_g
  have z_g : w.heap.size + 1 + 1 < _ := World.block_lt_of_cell? _ _ c_g_0
  clear z_l
  have z_l : w3.heap.size < _ := World.block_lt_of_cell? _ _ c_l_0
  clear z_oo
  have z_oo : bo < _ := World.block_lt_of_cell? _ _ o_0
  clear z_pp
  have z_pp : bo < _ := World.block_lt_of_cell? _ _ p_0
  clear z_q
  have z_q : w.heap.size + 1 + 1 + 1 < _ := World.block_lt_of_cell? _ _ c_q_0
  clear z_qq
  have z_qq : bo < _ := World.block_lt_of_cell? _ _ q_0
  clear z_ss
  have z_ss : bs < _ := World.block_lt_of_cell? _ _ hs_0
  have hB9 := below_two hB8 hs9
  clear hB8 hs9
  rw [ex_rests] at hre
  obtain ⟨pr, cr, er, _⟩ := sl_shape hre.row
  have er : ur = .slice pr 2 cr := er
  subst er
  obtain ⟨br, orr, er, _, _, _, r_3, r_4, r_5, r_6, _, _⟩ := evs_at hre (i := 0) rfl
  subst er
  simp only [Nat.zero_mul, Nat.add_zero] at r_3 r_4 r_5 r_6
  dsimp only [restM, restE] at r_3 r_4 r_5 r_6
  clear hre
  have z_rr : br < _ := World.block_lt_of_cell? _ _ r_3
  go_wp2_with fail
  have hR' := hR.below (hB9.alloc hB9.size (.cells #[.slice (some ⟨br, orr, none⟩) 2 cr] 26))
  refine (rests_no 0 0 (.slice none 0 0) [] _ (mtr_ints (Sl.none _ _ _)) ex_nometer).mono ?_
  rintro e w10 ⟨rfl, hb10⟩
  clear hR'
  have hs10 : Below w9.heap.size w9 w10 := Below.trans (by repeat (first | exact Below.refl _ _ | refine Below.alloc ?_ (by simp <;> omega) _)) (hb10.mono (by simp <;> omega))
  replace HEA := Lib.hid (HEA.out.later hs10)
  replace HEB := Lib.hid (HEB.out.later hs10)
  replace c_c_0 := cell_later hs10 c_c_0
  replace c_c_1 := cell_later hs10 c_c_1
  replace c_c_2 := cell_later hs10 c_c_2
  replace c_f_0 := cell_later hs10 c_f_0
  replace c_f_1 := cell_later hs10 c_f_1
  replace c_f_2 := cell_later hs10 c_f_2
  replace c_g_0 := cell_later hs10 c_g_0
  replace c_g_1 := cell_later hs10 c_g_1
  replace c_g_2 := cell_later hs10 c_g_2
  replace c_q_0 := cell_later hs10 c_q_0
  replace c_q_1 := cell_later hs10 c_q_1
  replace c_q_2 := cell_later hs10 c_q_2
  replace c_q_3 := cell_later hs10 c_q_3
  replace c_a_0 := cell_later hs10 c_a_0
  replace c_b_0 := cell_later hs10 c_b_0
  replace c_l_0 := cell_later hs10 c_l_0
  replace c_l_1 := cell_later hs10 c_l_1
  replace hs_0 := cell_later hs10 hs_0
  replace hs_1 := cell_later hs10 hs_1
  replace o_0 := cell_later hs10 o_0
  replace o_1 := cell_later hs10 o_1
  replace o_2 := cell_later hs10 o_2
  replace o_5 := cell_later hs10 o_5
  replace o_6 := cell_later hs10 o_6
  replace o_7 := cell_later hs10 o_7
  replace p_0 := cell_later hs10 p_0
  replace p_1 := cell_later hs10 p_1
  replace p_2 := cell_later hs10 p_2
  replace p_5 := cell_later hs10 p_5
  replace p_6 := cell_later hs10 p_6
  replace q_0 := cell_later hs10 q_0
  replace q_1 := cell_later hs10 q_1
  replace q_2 := cell_later hs10 q_2
  replace q_3 := cell_later hs10 q_3
  replace q_4 := cell_later hs10 q_4
  replace r_3 := cell_later hs10 r_3
  replace r_4 := cell_later hs10 r_4
  replace r_5 := cell_later hs10 r_5
  replace r_6 := cell_later hs10 r_6
  have c_r_0 : w10.cell? ⟨w9.heap.size, 0, none⟩ = some (.slice (some ⟨br, orr, none⟩) 2 cr) := (hb10.cell (by simp <;> omega)).trans (by go_simp)
  clear z_a
  have z_a : w.heap.size + 1 + 1 + 1 + 1 + 1 + 1 + 1 + 1 + 1 + 1 < _ := World.block_lt_of_cell? _ _ c_a_0
  clear z_b
  have z_b : Bb < _ := World.block_lt_of_cell? _ _ c_b_0
  clear z_c
  have z_c : w.heap.size < _ := World.block_lt_of_cell? _ _ c_c_0
  clear z_f
  have z_f : w.heap.size + 1 < _ := World.block_lt_of_cell? _ _ c_f_0
  clear z_g
  have z_g : w.heap.size + 1 + 1 < _ := World.block_lt_of_cell? _ _ c_g_0
  clear z_l
  have z_l : w3.heap.size < _ := World.block_lt_of_cell? _ _ c_l_0
  clear z_oo
  have z_oo : bo < _ := World.block_lt_of_cell? _ _ o_0
  clear z_pp
  have z_pp : bo < _ := World.block_lt_of_cell? _ _ p_0
  clear z_q
  have z_q : w.heap.size + 1 + 1 + 1 < _ := World.block_lt_of_cell? _ _ c_q_0
  clear z_qq
  have z_qq : bo < _ := World.block_lt_of_cell? _ _ q_0
  have z_r : w9.heap.size < _ := World.block_lt_of_cell? _ _ c_r_0
  clear z_rr
  have z_rr : br < _ := World.block_lt_of_cell? _ _ r_3
  clear z_ss
  have z_ss : bs < _ := World.block_lt_of_cell? _ _ hs_0
  have hB10 := below_two hB9 hs10
  clear hB9 hs10 hb10
  go_wp2_with fail
  have hs11 : Below w10.heap.size w10 (w10.alloc (.cells #[.slice none 0 0] 26)) := by repeat (first | exact Below.refl _ _ | refine Below.alloc ?_ (by simp <;> omega) _)
  replace HEA := Lib.hid (HEA.out.later hs11)
  replace HEB := Lib.hid (HEB.out.later hs11)
  replace c_c_0 := cell_later hs11 c_c_0
  replace c_c_1 := cell_later hs11 c_c_1
  replace c_c_2 := cell_later hs11 c_c_2
  replace c_f_0 := cell_later hs11 c_f_0
  replace c_f_1 := cell_later hs11 c_f_1
  replace c_f_2 := cell_later hs11 c_f_2
  replace c_g_0 := cell_later hs11 c_g_0
  replace c_g_1 := cell_later hs11 c_g_1
  replace c_g_2 := cell_later hs11 c_g_2
  replace c_q_0 := cell_later hs11 c_q_0
  replace c_q_1 := cell_later hs11 c_q_1
  replace c_q_2 := cell_later hs11 c_q_2
  replace c_q_3 := cell_later hs11 c_q_3
  replace c_a_0 := cell_later hs11 c_a_0
  replace c_b_0 := cell_later hs11 c_b_0
  replace c_l_0 := cell_later hs11 c_l_0
  replace c_l_1 := cell_later hs11 c_l_1
  replace hs_0 := cell_later hs11 hs_0
  replace hs_1 := cell_later hs11 hs_1
  replace o_0 := cell_later hs11 o_0
  replace o_1 := cell_later hs11 o_1
  replace o_2 := cell_later hs11 o_2
  replace o_5 := cell_later hs11 o_5
  replace o_6 := cell_later hs11 o_6
  replace o_7 := cell_later hs11 o_7
  replace p_0 := cell_later hs11 p_0
  replace p_1 := cell_later hs11 p_1
  replace p_2 := cell_later hs11 p_2
  replace p_5 := cell_later hs11 p_5
  replace p_6 := cell_later hs11 p_6
  replace q_0 := cell_later hs11 q_0
  replace q_1 := cell_later hs11 q_1
  replace q_2 := cell_later hs11 q_2
  replace q_3 := cell_later hs11 q_3
  replace q_4 := cell_later hs11 q_4
  replace r_3 := cell_later hs11 r_3
  replace r_4 := cell_later hs11 r_4
  replace r_5 := cell_later hs11 r_5
  replace r_6 := cell_later hs11 r_6
  replace c_r_0 := cell_later hs11 c_r_0
  have c_k_0 : (w10.alloc (.cells #[.slice none 0 0] 26)).cell? ⟨w10.heap.size, 0, none⟩ = some (.slice none 0 0) := by go_simp
  have hB11 := below_two hB10 hs11
  clear hB10 hs11
  have y11_a := z_a
  have y11_b := z_b
  have y11_c := z_c
  have y11_f := z_f
  have y11_g := z_g
  have y11_l := z_l
  have y11_oo := z_oo
  have y11_pp := z_pp
  have y11_q := z_q
  have y11_qq := z_qq
  have y11_r := z_r
  have y11_rr := z_rr
  have y11_ss := z_ss
  generalize (w10.alloc (.cells #[.slice none 0 0] 26)) = w11 at *
  clear z_a
  have z_a : w.heap.size + 1 + 1 + 1 + 1 + 1 + 1 + 1 + 1 + 1 + 1 < _ := World.block_lt_of_cell? _ _ c_a_0
  clear z_b
  have z_b : Bb < _ := World.block_lt_of_cell? _ _ c_b_0
  clear z_c
  have z_c : w.heap.size < _ := World.block_lt_of_cell? _ _ c_c_0
  clear z_f
  have z_f : w.heap.size + 1 < _ := World.block_lt_of_cell? _ _ c_f_0
  clear z_g
  have z_g : w.heap.size + 1 + 1 < _ := World.block_lt_of_cell? _ _ c_g_0
  have z_k : w10.heap.size < _ := World.block_lt_of_cell? _ _ c_k_0
  clear z_l
  have z_l : w3.heap.size < _ := World.block_lt_of_cell? _ _ c_l_0
  clear z_oo
  have z_oo : bo < _ := World.block_lt_of_cell? _ _ o_0
  clear z_pp
  have z_pp : bo < _ := World.block_lt_of_cell? _ _ p_0
  clear z_q
  have z_q : w.heap.size + 1 + 1 + 1 < _ := World.block_lt_of_cell? _ _ c_q_0
  clear z_qq
  have z_qq : bo < _ := World.block_lt_of_cell? _ _ q_0
  clear z_r
  have z_r : w9.heap.size < _ := World.block_lt_of_cell? _ _ c_r_0
  clear z_rr
  have z_rr : br < _ := World.block_lt_of_cell? _ _ r_3
  clear z_ss
  have z_ss : bs < _ := World.block_lt_of_cell? _ _ hs_0
  go_wp2_with fail
  have QB : Hid (∀ dd os, Below w.heap.size w (Go.Sort.grow (redrawn w11 dd) os)) := Lib.hid (fun dd os => below_two hB11 (below_regrown w11 dd os))
  have g_c_c_0 := fun dd os => cell_regrown c_c_0 dd os
  have g_c_c_1 := fun dd os => cell_regrown c_c_1 dd os
  have g_c_c_2 := fun dd os => cell_regrown c_c_2 dd os
  have g_c_f_0 := fun dd os => cell_regrown c_f_0 dd os
  have g_c_f_1 := fun dd os => cell_regrown c_f_1 dd os
  have g_c_f_2 := fun dd os => cell_regrown c_f_2 dd os
  have g_c_g_0 := fun dd os => cell_regrown c_g_0 dd os
  have g_c_g_1 := fun dd os => cell_regrown c_g_1 dd os
  have g_c_g_2 := fun dd os => cell_regrown c_g_2 dd os
  have g_c_q_0 := fun dd os => cell_regrown c_q_0 dd os
  have g_c_q_1 := fun dd os => cell_regrown c_q_1 dd os
  have g_c_q_2 := fun dd os => cell_regrown c_q_2 dd os
  have g_c_q_3 := fun dd os => cell_regrown c_q_3 dd os
  have g_c_a_0 := fun dd os => cell_regrown c_a_0 dd os
  have g_c_b_0 := fun dd os => cell_regrown c_b_0 dd os
  have g_c_l_0 := fun dd os => cell_regrown c_l_0 dd os
  have g_c_l_1 := fun dd os => cell_regrown c_l_1 dd os
  have g_hs_0 := fun dd os => cell_regrown hs_0 dd os
  have g_hs_1 := fun dd os => cell_regrown hs_1 dd os
  have g_o_0 := fun dd os => cell_regrown o_0 dd os
  have g_o_1 := fun dd os => cell_regrown o_1 dd os
  have g_o_2 := fun dd os => cell_regrown o_2 dd os
  have g_o_5 := fun dd os => cell_regrown o_5 dd os
  have g_o_6 := fun dd os => cell_regrown o_6 dd os
  have g_o_7 := fun dd os => cell_regrown o_7 dd os
  have g_p_0 := fun dd os => cell_regrown p_0 dd os
  have g_p_1 := fun dd os => cell_regrown p_1 dd os
  have g_p_2 := fun dd os => cell_regrown p_2 dd os
  have g_p_5 := fun dd os => cell_regrown p_5 dd os
  have g_p_6 := fun dd os => cell_regrown p_6 dd os
  have g_q_0 := fun dd os => cell_regrown q_0 dd os
  have g_q_1 := fun dd os => cell_regrown q_1 dd os
  have g_q_2 := fun dd os => cell_regrown q_2 dd os
  have g_q_3 := fun dd os => cell_regrown q_3 dd os
  have g_q_4 := fun dd os => cell_regrown q_4 dd os
  have g_r_3 := fun dd os => cell_regrown r_3 dd os
  have g_r_4 := fun dd os => cell_regrown r_4 dd os
  have g_r_5 := fun dd os => cell_regrown r_5 dd os
  have g_r_6 := fun dd os => cell_regrown r_6 dd os
  have g_c_r_0 := fun dd os => cell_regrown c_r_0 dd os
  have g_c_k_0 := fun dd os => cell_regrown c_k_0 dd os
  have q0 : Hid (∀ dd os, Calls Tryd.prog 24 #[.agg #[.slice (some ⟨w.heap.size + 1 + 1 + 1 + 1 + 1 + 1 + 1 + 1 + 1, 0, none⟩) 2 2], .agg #[.slice (some ⟨w.heap.size + 1 + 1 + 1 + 1 + 1 + 1 + 1 + 1 + 1, 0, none⟩) 2 2]] (Go.Sort.grow (redrawn w11 dd) os) fun e w'' => e = .returned (.bool true) ∧ ∃ p : Regrown, w'' = Go.Sort.grow (redrawn w11 p.d) p.os) := Lib.hid (fun dd os => Calls.regrown_of (vsame_is (ys := [(((⟨1, [(0, 0, 4), (2, 0, 4)], [true, false], 2, 0, 0, 0, [3], ⟨#[]⟩⟩ : Ev), Value.slice (some ⟨w.heap.size + 1 + 1 + 1 + 1, 0, none⟩) 2 2, Value.slice (some ⟨w.heap.size + 1 + 1 + 1 + 1 + 1, 0, none⟩) 2 2, Value.slice (some ⟨w.heap.size + 1 + 1 + 1 + 1 + 1 + 1, 0, none⟩) 1 1) : EM), (((⟨1, [(0, 0, 4), (4, 0, 4)], [false, false], 2, 0, 0, 0, [], ⟨#[]⟩⟩ : Ev), Value.slice (some ⟨w.heap.size + 1 + 1 + 1 + 1 + 1 + 1 + 1, 0, none⟩) 2 2, Value.slice (some ⟨w.heap.size + 1 + 1 + 1 + 1 + 1 + 1 + 1 + 1, 0, none⟩) 2 2, Value.slice none 0 0) : EM)]) (zs := [(((⟨1, [(0, 0, 4), (2, 0, 4)], [true, false], 2, 0, 0, 0, [3], ⟨#[]⟩⟩ : Ev), Value.slice (some ⟨w.heap.size + 1 + 1 + 1 + 1, 0, none⟩) 2 2, Value.slice (some ⟨w.heap.size + 1 + 1 + 1 + 1 + 1, 0, none⟩) 2 2, Value.slice (some ⟨w.heap.size + 1 + 1 + 1 + 1 + 1 + 1, 0, none⟩) 1 1) : EM), (((⟨1, [(0, 0, 4), (4, 0, 4)], [false, false], 2, 0, 0, 0, [], ⟨#[]⟩⟩ : Ev), Value.slice (some ⟨w.heap.size + 1 + 1 + 1 + 1 + 1 + 1 + 1, 0, none⟩) 2 2, Value.slice (some ⟨w.heap.size + 1 + 1 + 1 + 1 + 1 + 1 + 1 + 1, 0, none⟩) 2 2, Value.slice none 0 0) : EM)]) ex_same _ _ _ (HEA.out.later (below_regrown w11 dd os)) (HEA.out.later (below_regrown w11 dd os))))
  have q1 : Hid (∀ dd os, Calls Tryd.prog 24 #[.agg #[.slice (some ⟨w.heap.size + 1 + 1 + 1 + 1 + 1 + 1 + 1 + 1 + 1, 0, none⟩) 2 2], .agg #[.slice pb 2 cb]] (Go.Sort.grow (redrawn w11 dd) os) fun e w'' => e = .returned (.bool false) ∧ ∃ p : Regrown, w'' = Go.Sort.grow (redrawn w11 p.d) p.os) := Lib.hid (fun dd os => Calls.regrown_of (vsame_is (ys := [(((⟨1, [(0, 0, 4), (2, 0, 4)], [true, false], 2, 0, 0, 0, [3], ⟨#[]⟩⟩ : Ev), Value.slice (some ⟨w.heap.size + 1 + 1 + 1 + 1, 0, none⟩) 2 2, Value.slice (some ⟨w.heap.size + 1 + 1 + 1 + 1 + 1, 0, none⟩) 2 2, Value.slice (some ⟨w.heap.size + 1 + 1 + 1 + 1 + 1 + 1, 0, none⟩) 1 1) : EM), (((⟨1, [(0, 0, 4), (4, 0, 4)], [false, false], 2, 0, 0, 0, [], ⟨#[]⟩⟩ : Ev), Value.slice (some ⟨w.heap.size + 1 + 1 + 1 + 1 + 1 + 1 + 1, 0, none⟩) 2 2, Value.slice (some ⟨w.heap.size + 1 + 1 + 1 + 1 + 1 + 1 + 1 + 1, 0, none⟩) 2 2, Value.slice none 0 0) : EM)]) (zs := yb) (by rw [HMB.out]; exact ex_unlike) _ _ _ (HEA.out.later (below_regrown w11 dd os)) (HEB.out.later (below_regrown w11 dd os))))
  refine wp_region_quiet_below (by kernel_rfl) (lexB_of (by kernel_rfl) (by kernel_rfl) (by kernel_rfl)) ?_
  dsimp only [List.append]
  repeat (go_big_quiet_step (first | (go_at_call 24; with_reducible exact q0.out _ _) | (go_at_call 24; with_reducible exact q1.out _ _)))
  refine wpQuiet_nil ?_
  intro _ hw'
  obtain ⟨⟨dq, osq⟩, hw''⟩ := hw'
  subst hw''
  replace HEA := Lib.hid (HEA.out.later (below_regrown w11 dq osq))
  replace HEB := Lib.hid (HEB.out.later (below_regrown w11 dq osq))
  replace c_c_0 := g_c_c_0 dq osq
  clear g_c_c_0
  replace c_c_1 := g_c_c_1 dq osq
  clear g_c_c_1
  replace c_c_2 := g_c_c_2 dq osq
  clear g_c_c_2
  replace c_f_0 := g_c_f_0 dq osq
  clear g_c_f_0
  replace c_f_1 := g_c_f_1 dq osq
  clear g_c_f_1
  replace c_f_2 := g_c_f_2 dq osq
  clear g_c_f_2
  replace c_g_0 := g_c_g_0 dq osq
  clear g_c_g_0
  replace c_g_1 := g_c_g_1 dq osq
  clear g_c_g_1
  replace c_g_2 := g_c_g_2 dq osq
  clear g_c_g_2
  replace c_q_0 := g_c_q_0 dq osq
  clear g_c_q_0
  replace c_q_1 := g_c_q_1 dq osq
  clear g_c_q_1
  replace c_q_2 := g_c_q_2 dq osq
  clear g_c_q_2
  replace c_q_3 := g_c_q_3 dq osq
  clear g_c_q_3
  replace c_a_0 := g_c_a_0 dq osq
  clear g_c_a_0
  replace c_b_0 := g_c_b_0 dq osq
  clear g_c_b_0
  replace c_l_0 := g_c_l_0 dq osq
  clear g_c_l_0
  replace c_l_1 := g_c_l_1 dq osq
  clear g_c_l_1
  replace hs_0 := g_hs_0 dq osq
  clear g_hs_0
  replace hs_1 := g_hs_1 dq osq
  clear g_hs_1
  replace o_0 := g_o_0 dq osq
  clear g_o_0
  replace o_1 := g_o_1 dq osq
  clear g_o_1
  replace o_2 := g_o_2 dq osq
  clear g_o_2
  replace o_5 := g_o_5 dq osq
  clear g_o_5
  replace o_6 := g_o_6 dq osq
  clear g_o_6
  replace o_7 := g_o_7 dq osq
  clear g_o_7
  replace p_0 := g_p_0 dq osq
  clear g_p_0
  replace p_1 := g_p_1 dq osq
  clear g_p_1
  replace p_2 := g_p_2 dq osq
  clear g_p_2
  replace p_5 := g_p_5 dq osq
  clear g_p_5
  replace p_6 := g_p_6 dq osq
  clear g_p_6
  replace q_0 := g_q_0 dq osq
  clear g_q_0
  replace q_1 := g_q_1 dq osq
  clear g_q_1
  replace q_2 := g_q_2 dq osq
  clear g_q_2
  replace q_3 := g_q_3 dq osq
  clear g_q_3
  replace q_4 := g_q_4 dq osq
  clear g_q_4
  replace r_3 := g_r_3 dq osq
  clear g_r_3
  replace r_4 := g_r_4 dq osq
  clear g_r_4
  replace r_5 := g_r_5 dq osq
  clear g_r_5
  replace r_6 := g_r_6 dq osq
  clear g_r_6
  replace c_r_0 := g_c_r_0 dq osq
  clear g_c_r_0
  replace c_k_0 := g_c_k_0 dq osq
  clear g_c_k_0
  clear q0
  clear q1
  have hB12 := QB.out dq osq
  clear QB hB11 z_a z_b z_c z_f z_g z_k z_l z_oo z_pp z_q z_qq z_r z_rr z_ss
  generalize Go.Sort.grow (redrawn w11 dq) osq = w12 at *
  have z_a : w.heap.size + 1 + 1 + 1 + 1 + 1 + 1 + 1 + 1 + 1 + 1 < _ := World.block_lt_of_cell? _ _ c_a_0
  have z_b : Bb < _ := World.block_lt_of_cell? _ _ c_b_0
  have z_c : w.heap.size < _ := World.block_lt_of_cell? _ _ c_c_0
  have z_f : w.heap.size + 1 < _ := World.block_lt_of_cell? _ _ c_f_0
  have z_g : w.heap.size + 1 + 1 < _ := World.block_lt_of_cell? _ _ c_g_0
  have z_k : w10.heap.size < _ := World.block_lt_of_cell? _ _ c_k_0
  have z_l : w3.heap.size < _ := World.block_lt_of_cell? _ _ c_l_0
  have z_oo : bo < _ := World.block_lt_of_cell? _ _ o_0
  have z_pp : bo < _ := World.block_lt_of_cell? _ _ p_0
  have z_q : w.heap.size + 1 + 1 + 1 < _ := World.block_lt_of_cell? _ _ c_q_0
  have z_qq : bo < _ := World.block_lt_of_cell? _ _ q_0
  have z_r : w9.heap.size < _ := World.block_lt_of_cell? _ _ c_r_0
  have z_rr : br < _ := World.block_lt_of_cell? _ _ r_3
  have z_ss : bs < _ := World.block_lt_of_cell? _ _ hs_0
  go_wp2
  go_ret
  exact ⟨rfl, hB12⟩
end Go.Proofs.YtobhmiknlbjmkaaDoor
