/-
  From a row's listed variables to what the walks ask of the world; and the lifting of a law's walk to its row.
-/
import Derived.Test.YtgndmaihhkhnpaaDoorRatK
import Derived.ProofKit
import Derived.LaidMore
import Derived.OpenShut
import Derived.Stop.Joined
import Derived.Stop.LaidErr
import Derived.Lib.LaidTab
import Derived.HandedShaped
namespace Go.Proofs.YtgndmaihhkhnpaaDoor
open Go.ChangeShapes Go.WideShapes Go.ChangeAt Go.RowKit

theorem own : ownKnob Tryd.prog.godebug = none := by kernel_rfl
theorem gES : Tryd.prog.globalNamed "strconv.ErrSyntax" = some 1 := by kernel_rfl
theorem gER : Tryd.prog.globalNamed "strconv.ErrRange" = some 2 := by kernel_rfl
theorem gPT : Tryd.prog.globalNamed "internal/strconv.uint64pow10" = some 3 := by kernel_rfl
theorem gESType : (Tryd.prog.globals[1]?).map (·.type) = some 50 := by kernel_rfl
theorem gERType : (Tryd.prog.globals[2]?).map (·.type) = some 50 := by kernel_rfl
theorem gPTType : (Tryd.prog.globals[3]?).map (·.type) = some 96 := by kernel_rfl
theorem cellsES : Tryd.prog.cellsOf 94 = 1 := by kernel_rfl
theorem cellsS : Tryd.prog.cellsOf 9 = 1 := by kernel_rfl
theorem cellsU : Tryd.prog.cellsOf 44 = 1 := by kernel_rfl
theorem cellsT : Tryd.prog.cellsOf 96 = 20 := by kernel_rfl
theorem star : "*" ++ "errors.errorString" = "*errors.errorString" := by decide
theorem rowES (u : TypeId) (h : Tryd.prog.typeName? 3 u = some "*errors.errorString") : u = 92 :=
  typeName_ptr_named (nm := "errors.errorString") (by rw [star]; kernel_rfl) (by kernel_rfl) (by decide) u (by rw [star]; exact h)

/-- The five listed variables. -/
def laid5 : List (String × DataW Unit) := Rows.ratioFloorRow.laid

theorem pow_data : (Rows.laid_internal_strconv_uint64pow10 : DataW Unit) = Lib.tabData .u64 Lib.pow10Tab := by kernel_rfl

/-- WHAT THE CONDITION GIVES THE WALKS. -/
theorem ready_of {W : World} (h : laidMetH Tryd.prog laid5 W) (hsh : W.ShapedOpen Tryd.prog) : Ready W := by
  rw [MakeChecks.laidMetH_plain _ _ _ (by kernel_rfl)] at h
  have h1 : laidMet Tryd.prog [("math/bits.deBruijn32tab", Rows.laid_math_bits_deBruijn32tab), ("math/bits.deBruijn64tab", Rows.laid_math_bits_deBruijn64tab), ("internal/strconv.uint64pow10", Rows.laid_internal_strconv_uint64pow10), ("strconv.ErrRange", Rows.laid_strconv_ErrRange), ("strconv.ErrSyntax", Rows.laid_strconv_ErrSyntax)] W := h
  have h3 := h1.tail.tail
  have h4 := h3.tail
  have h5 := h4.tail
  rw [pow_data] at h3
  obtain ⟨a0, s0, hv0, -, -, -⟩ := laid_sentinel h4 gER gERType Tryd.underlying50 rowES Tryd.underlying92 Tryd.underlying94 rfl rfl Tryd.underlying9 cellsES cellsS
  obtain ⟨a1, s1, hv1, -, -, -⟩ := laid_sentinel h5 gES gESType Tryd.underlying50 rowES Tryd.underlying92 Tryd.underlying94 rfl rfl Tryd.underlying9 cellsES cellsS
  exact ⟨Lib.tabIs_of_head gPT gPTType Tryd.underlying96 Tryd.underlying44 cellsU cellsT h3,
    ⟨_, _, by have h0 := World.var?_cell gES hv1 0; simpa using h0⟩, ⟨_, _, by have h0 := World.var?_cell gER hv0 0; simpa using h0⟩, Tryd.laysM145.s1_3 W hsh⟩

theorem door_met (os : Os) (args : Array Value) : laidMetH Tryd.prog laid5 ((World.doorLaid Tryd.prog 400 os).forCall (fun _ _ => 0) ⟨#[], args, []⟩).memory :=
  laidMetH_of_parts3 (fuel := 8) (laidMet_of_run' 8 (by kernel_rfl) (by kernel_rfl)) (by kernel_rfl) (by kernel_rfl)

/-- Ratio answers one right ratio, in whatever world. -/
theorem ratio_fix (a b : Int) (ha : Rat.I64 a) (hb : Rat.I64 b) : ∃ n d, Rat.IsRight n d ∧ ∀ w, Calls Tryd.prog 17 #[rt a b] w fun e w' => e = .returned (rt n d) ∧ Below w.heap.size w w' := by
  by_cases h0 : Rat.ofE a b = 0
  · exact ⟨_, _, (Rat.of_sound h0).1, fun w => ratio_ok a b w ha hb _ _ (Lib.hid ⟨rfl, rfl, h0⟩)⟩
  · obtain ⟨x0, x1⟩ := pickS_bounds a (n := 2000001) (by decide)
    obtain ⟨y0, y1⟩ := pickS_bounds b (n := 1000000) (by decide)
    generalize hx : pickS a 2000001 = x at *
    generalize hy : pickS b 1000000 = y at *
    have hu : IntKind.i64.wrap (x - 1000000) = x - 1000000 := IntWalk.i64_in _ (by omega)
    have hv : IntKind.i64.wrap (1 + y) = 1 + y := IntWalk.i64_in _ (by omega)
    have hE : Rat.ofE (x - 1000000) (1 + y) = 0 := of_small (by omega) (by omega) (by omega) (by omega)
    exact ⟨_, _, (Rat.of_sound hE).1, fun w => ratio_no a b w ha hb h0 x y _ _ (Lib.hid ⟨hx, hy⟩) (x - 1000000) (1 + y) hu hv (i64_small (by omega) (by omega)) (i64_small (by omega) (by omega)) (Lib.hid ⟨rfl, rfl⟩)⟩

/-- The bounds of a right ratio's terms. -/
theorem right_bounds {n d : Int} (h : Rat.IsRight n d) : 1 ≤ d ∧ d ≤ 1000000000 ∧ -1000000000 ≤ n ∧ n ≤ 1000000000 := by
  have hM := Rat.M_eq
  exact ⟨h.d1, by have := h.dM; omega, by have := h.n0; omega, by have := h.nM; omega⟩
theorem right_true {n d : Int} (h : Rat.IsRight n d) : Rat.right n d = true := (Rat.right_iff _ _).2 h

/-- A law's contract: in whatever world in which the library's variables hold what they do, called with these arguments, it answers true, and of what was there nothing has turned. -/
def LawHolds (f : FuncId) (args : Array Value) (W : World) : Prop := Calls Tryd.prog f args W fun e W' => e = .returned (.bool true) ∧ Below W.heap.size W W'

section
variable {H : Type} {enc : TypeId × Value → H}
/-- THE LIFTING: listed variables and the world's shape both handed to the contract. -/
theorem lifted_of {os : Os} {f : FuncId} {fn : Func} {s : ChangeSpec} {apart fresh handsOn again : Bool} (started : os.Started) (noInit : Tryd.prog.inits.idxOf? f = none) (hfn : Tryd.prog.funcs[f]? = some fn)
    (witness : ∃ (w : World) (tape : Tape) (i : Input), w.os = os ∧ (w.forCall tape i).Shaped Tryd.prog ∧ i.vars = [] ∧ Input.okWide Tryd.prog (w.forCall tape i) .any w.heap.size f i ∧
      ((s.pre enc Tryd.prog fn [] apart (w.forCall tape i).memory i.args ∧ laidMetH Tryd.prog laid5 (w.forCall tape i).memory) ∧ sizedMet enc Tryd.prog fn (OpenSpec.ofChange s) apart (w.forCall tape i).memory i.args) ∧ ({} : Assume).holds Tryd.prog (lone (Frame.enter Tryd.prog f i.args .normal) [] (w.forCall tape i)))
    (contract : ∀ (W : World) (base : Nat) (args : Array Value) (ds gs : List (DataW H)) (before : List MemPlace),
      (∀ (j : Nat) t v, fn.params[j]? = some t → args[j]? = some v → Value.okWide Tryd.prog W .any base t v) →
      DataW.Whole enc Tryd.prog fn.params.toList s.vars apart W args.toList ds gs before → Ready W →
      (DataW.weightsEach Tryd.prog (fn.params.toList ++ s.plain.varTypes Tryd.prog) (ds ++ gs)).all (· ≤ reachBytes) = true →
      Calls Tryd.prog f args W fun e W' => ∃ v, e = .returned v ∧ s.post enc Tryd.prog fn apart fresh handsOn again W args v W') :
    ReturnsInHanded {} Tryd.checked os f .any (fun w args => (s.pre enc Tryd.prog fn [] apart w args ∧ laidMetH Tryd.prog laid5 w) ∧ sizedMet enc Tryd.prog fn (OpenSpec.ofChange s) apart w args) (s.post enc Tryd.prog fn apart fresh handsOn again) := by
  refine returnsInHanded_of_calls (C := Tryd.checked) own started noInit witness ?_
  intro w tape i _ hsh _ hok hpre _
  obtain ⟨_, _, _, fn', hfn', _, _, _, _, hval⟩ := hok
  have e : fn' = fn := Option.some.inj (hfn'.symm.trans hfn)
  subst e
  obtain ⟨⟨⟨ds, gs, before, hw, hc⟩, hx⟩, hz⟩ := hpre
  have hw' := DataW.Whole.of_heap (w' := w.forCall tape i) (by rfl) hw
  have hx' : laidMetH Tryd.prog laid5 (w.forCall tape i) := laidMetH.of_heap (by rfl) hx
  refine (contract (w.forCall tape i) w.heap.size i.args ds gs before hval hw' (ready_of hx' hsh) (hz.weights hw)).mono fun e W' ⟨v, he, hp⟩ => ?_
  subst he
  exact ChangeSpec.post_blind hp
end
end Go.Proofs.YtgndmaihhkhnpaaDoor
