/-
  A ratio among the arguments, opened and shut.
-/
import Derived.Test.YtgndmaihhkhnpaaDoorRatRow
import Derived.Lib.SmallJoins
namespace Go.Proofs.YtgndmaihhkhnpaaDoor
open Go.ChangeShapes Go.WideShapes Go.ChangeAt Go.RowKit

theorem i64_of_wf {a : Int} (h : (Lit.int .i64 a).wf = true) : Rat.I64 a := by
  have e1 : IntKind.i64.min = -9223372036854775808 := rfl
  have e2 : IntKind.i64.max = 9223372036854775807 := rfl
  simp [Lit.wf, e1, e2] at h
  exact h
theorem wf_of_i64 {a : Int} (h : Rat.I64 a) : (Lit.int .i64 a).wf = true := by
  have e1 : IntKind.i64.min = -9223372036854775808 := rfl
  have e2 : IntKind.i64.max = 9223372036854775807 := rfl
  simp [Lit.wf, e1, e2]
  exact h
theorem u8_of_wf {a : Int} (h : (Lit.int .u8 a).wf = true) : 0 ≤ a ∧ a ≤ 255 := by
  have e1 : IntKind.u8.min = 0 := rfl
  have e2 : IntKind.u8.max = 255 := rfl
  simp [Lit.wf, e1, e2] at h
  exact h

theorem cellsR : Tryd.prog.cellsOf 23 = 2 := by kernel_rfl

section
variable {H : Type} {enc : TypeId × Value → H} {w : World} {base : Nat} {spare : Nat → Bool} {held : Bool}
theorem open_rt {b0 : Nat} {v : Value} {d : DataW H} {p : List MemPlace} (hv : Value.okWide Tryd.prog w .any b0 23 v) (h : DataW.Trod enc Tryd.prog w base spare held 23 v d p) :
    ∃ a b : Int, v = rt a b ∧ d = .agg [.lit (.int .i64 a), .lit (.int .i64 b)] ∧ p = [] ∧ Rat.I64 a ∧ Rat.I64 b := by
  obtain ⟨v0, v1, y0, y1, n, rfl, rfl, rfl, h0, h1⟩ := Joins.open_agg2 Tryd.underlying23 (by kernel_rfl) cellsR hv h
  obtain ⟨k0, e0, x0, w0⟩ := DataW.trod_int Tryd.underlying3 h0
  obtain ⟨k1, e1, x1, w1⟩ := DataW.trod_int Tryd.underlying3 h1
  simp only [List.cons.injEq, and_true] at e0 e1
  subst e0; subst e1; subst x0; subst x1
  exact ⟨k0, k1, rfl, rfl, rfl, i64_of_wf w0, i64_of_wf w1⟩
theorem shut_rt {a b : Int} (ha : Rat.I64 a) (hb : Rat.I64 b) : DataW.Trod enc Tryd.prog w base spare held 23 (rt a b) (.agg [.lit (.int .i64 a), .lit (.int .i64 b)]) [] :=
  Joins.shut_agg2 (y0 := (.lit (.int .i64 a), [])) (y1 := (.lit (.int .i64 b), [])) Tryd.underlying23 (by kernel_rfl) cellsR
    ⟨1, by have := wf_of_i64 ha; simp [DataW.trod, Tryd.underlying3, this]⟩ ⟨1, by have := wf_of_i64 hb; simp [DataW.trod, Tryd.underlying3, this]⟩
end
end Go.Proofs.YtgndmaihhkhnpaaDoor
