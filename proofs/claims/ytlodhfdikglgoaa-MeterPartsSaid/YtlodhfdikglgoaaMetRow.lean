/-
  From a row's arguments to what the walks ask: meters, ratios, numbers, three numbers.
-/
import Derived.Test.YtlodhfdikglgoaaMetK
import Derived.ProofKit
import Derived.OpenShut
import Derived.SizedLaws
import Derived.Carry
import Derived.Lib.SmallJoins
namespace Go.Proofs.Ytlodhfdikglgoaa
open Go.ChangeShapes Go.WideShapes Go.ChangeAt Go.RowKit

theorem own : ownKnob Try.prog.godebug = none := by kernel_rfl
theorem laidOut : laidOutB Try.prog = true := by kernel_rfl
theorem i64_of_wf {a : Int} (h : (Lit.int .i64 a).wf = true) : Rat.I64 a := by
  have e1 : IntKind.i64.min = -9223372036854775808 := rfl
  have e2 : IntKind.i64.max = 9223372036854775807 := rfl
  simp [Lit.wf, e1, e2] at h
  exact h
theorem cellsR : Try.prog.cellsOf 26 = 2 := by kernel_rfl
theorem cellsM : Try.prog.cellsOf 24 = 3 := by kernel_rfl
theorem cellsI : Try.prog.cellsOf 3 = 1 := by kernel_rfl
theorem cellsA : Try.prog.cellsOf 51 = 3 := by kernel_rfl
theorem bytesI : Try.prog.bytesOf 3 = 8 := by kernel_rfl
/-- A law's contract: called with these arguments, it answers true, and of what was there nothing has turned. -/
def LawHolds (f : FuncId) (args : Array Value) (W : World) : Prop := Calls Try.prog f args W fun e W' => e = .returned (.bool true) ∧ Below W.heap.size W W'

section
variable {H : Type} {enc : TypeId × Value → H} {w : World}
theorem open_rt {b0 : Nat} {base : Nat} {spare : Nat → Bool} {held : Bool} {v : Value} {d : DataW H} {p : List MemPlace} (hv : Value.okWide Try.prog w .any b0 26 v) (h : DataW.Trod enc Try.prog w base spare held 26 v d p) :
    ∃ a b : Int, v = rt a b ∧ Rat.I64 a ∧ Rat.I64 b := by
  obtain ⟨v0, v1, y0, y1, n, rfl, rfl, rfl, h0, h1⟩ := Joins.open_agg2 Try.underlying26 (by kernel_rfl) cellsR hv h
  obtain ⟨k0, e0, x0, w0⟩ := DataW.trod_int Try.underlying3 h0
  obtain ⟨k1, e1, x1, w1⟩ := DataW.trod_int Try.underlying3 h1
  simp only [List.cons.injEq, and_true] at e0 e1
  subst e0; subst e1
  exact ⟨k0, k1, rfl, i64_of_wf w0, i64_of_wf w1⟩
theorem open_mt {b0 : Nat} {held : Bool} {v : Value} {d : DataW H} {p : List MemPlace} (hv : Value.okWide Try.prog w .any b0 24 v) (h : DataW.Trod enc Try.prog w 0 (fun _ => true) held 24 v d p) (hsz : ∀ n ∈ d.weights Try.prog 24, n ≤ reachBytes) :
    ∃ (a b : Int) (u : Value) (gs : List Int), v = mt a b u ∧ Rat.I64 a ∧ Rat.I64 b ∧ Ints w u gs ∧ ∀ z ∈ gs, Rat.I64 z := by
  obtain ⟨v0, v1, v2, y0, y1, y2, n, rfl, rfl, rfl, h0, h1, h2⟩ := Joins.open_agg3 Try.underlying24 (by kernel_rfl) cellsM hv h
  obtain ⟨k0, e0, x0, w0⟩ := DataW.trod_int Try.underlying3 h0
  obtain ⟨k1, e1, x1, w1⟩ := DataW.trod_int Try.underlying3 h1
  simp only [List.cons.injEq, and_true] at e0 e1
  subst e0; subst e1
  rcases open_ints Try.underlying22 Try.underlying3 cellsI h2 with ⟨hcs, hx⟩ | ⟨a, len, cap, zs, hcs, _, hl, hm, hz, hx, hcell, hwz⟩
  · simp only [List.cons.injEq, and_true] at hcs
    subst hcs
    exact ⟨k0, k1, _, [], rfl, i64_of_wf w0, i64_of_wf w1, Ints.none _, by simp⟩
  · simp only [List.cons.injEq, and_true] at hcs
    subst hcs
    simp at hz
    have hlen : (zs.take len).length = len := by rw [List.length_take]; omega
    have hw : (zs.take len).length ≤ 140737488355328 := by
      have hb := hsz (((lits (H := H) .i64 (zs.take len)).length + (lits (H := H) .i64 (zs.drop len)).length) * Try.prog.bytesOf 3) (by
        rw [hx]
        simp only [DataW.weights, DataW.weightsEach, Try.underlying24, Try.underlying22, List.map_cons, List.map_nil]
        simp)
      rw [bytesI] at hb
      simp only [lits, List.length_map] at hb
      have := reachBytes_lt
      omega
    refine ⟨k0, k1, _, zs.take len, rfl, i64_of_wf w0, i64_of_wf w1, ⟨some a, cap, by rw [hlen], hw, ?_⟩, fun z hzz => i64_of_wf (hwz z (List.mem_of_mem_take hzz))⟩
    intro i x hi
    have hi2 : i < len := by have := (List.getElem?_eq_some_iff.1 hi).1; rw [hlen] at this; exact this
    have hc := hcell i (by omega)
    obtain ⟨b, off, spot⟩ := a
    have hspot : spot = none := by simpa [Addr.add] using World.cell?_spot (hcell 0 (by omega))
    subst hspot
    refine ⟨b, off, rfl, ?_⟩
    have e : zs.getD i 0 = x := by
      rw [List.getElem?_take, if_pos hi2] at hi
      rw [List.getD_eq_getElem?_getD, hi]; rfl
    rw [e] at hc
    have e3 : (Addr.add ⟨b, off, none⟩ i) = ⟨b, off + i, none⟩ := by
      unfold Addr.add
      split
      · simp_all
      · rfl
    rw [e3] at hc
    exact hc
theorem open_a3 {b0 : Nat} {base : Nat} {spare : Nat → Bool} {held : Bool} {v : Value} {d : DataW H} {p : List MemPlace} (hv : Value.okWide Try.prog w .any b0 51 v) (h : DataW.Trod enc Try.prog w base spare held 51 v d p) :
    ∃ a b c : Int, v = .agg #[.int .i64 a, .int .i64 b, .int .i64 c] ∧ Rat.I64 a ∧ Rat.I64 b ∧ Rat.I64 c := by
  simp only [Value.okWide, Try.underlying51] at hv
  obtain ⟨cs, rfl, hsz⟩ := hv
  rw [cellsA] at hsz
  obtain ⟨c0, c1, c2, rfl⟩ : ∃ c0 c1 c2, cs = #[c0, c1, c2] := by
    obtain ⟨l⟩ := cs
    match l, hsz with
    | [x, y, z], _ => exact ⟨x, y, z, rfl⟩
  obtain ⟨fuel, hf⟩ := h
  obtain ⟨xs, m, _, hx, _, hlen, hy⟩ := DataW.trod_array Try.underlying51 hf
  match xs, hlen with
  | [y0, y1, y2], _ =>
    have h0 := hy 0 (by decide)
    have h1 := hy 1 (by decide)
    have h2 := hy 2 (by decide)
    simp only [cellsI, Value.cells] at h0 h1 h2
    obtain ⟨k0, e0, x0, w0⟩ := DataW.trod_int Try.underlying3 (x := y0) h0
    obtain ⟨k1, e1, x1, w1⟩ := DataW.trod_int Try.underlying3 (x := y1) h1
    obtain ⟨k2, e2, x2, w2⟩ := DataW.trod_int Try.underlying3 (x := y2) h2
    simp at e0 e1 e2
    subst e0; subst e1; subst e2
    exact ⟨k0, k1, k2, rfl, i64_of_wf w0, i64_of_wf w1, i64_of_wf w2⟩
end
end Go.Proofs.Ytlodhfdikglgoaa
