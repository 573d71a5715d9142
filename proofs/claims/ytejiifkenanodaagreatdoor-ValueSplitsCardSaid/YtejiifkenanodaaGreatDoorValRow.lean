/-
  From a row's listed variables to what the walks ask of the world; the lifting of a law's walk to its row; ratios and values among the arguments, opened and shut.
-/
import Derived.Test.YtejiifkenanodaaGreatDoorValA
import Derived.Test.YtejiifkenanodaaGreatDoorRatRow
import Derived.ProofKit
import Derived.LaidMore
import Derived.OpenShut
import Derived.Stop.Joined
import Derived.Stop.LaidErr
import Derived.Lib.LaidTab
import Derived.Lib.LaidU8
import Derived.HandedShaped
import Derived.Lib.SmallJoins
import Derived.Lay
namespace Go.Proofs.YtejiifkenanodaaGreatDoor
open Go.ChangeShapes Go.WideShapes Go.ChangeAt Go.RowKit

theorem own : ownKnob Tryz.prog.godebug = none := by kernel_rfl
theorem gES : Tryz.prog.globalNamed "strconv.ErrSyntax" = some 4 := by kernel_rfl
theorem gER : Tryz.prog.globalNamed "strconv.ErrRange" = some 5 := by kernel_rfl
theorem gPT : Tryz.prog.globalNamed "internal/strconv.uint64pow10" = some 6 := by kernel_rfl
theorem gESType : (Tryz.prog.globals[4]?).map (·.type) = some 90 := by kernel_rfl
theorem gERType : (Tryz.prog.globals[5]?).map (·.type) = some 90 := by kernel_rfl
theorem gPTType : (Tryz.prog.globals[6]?).map (·.type) = some 149 := by kernel_rfl
theorem cellsES : Tryz.prog.cellsOf 160 = 1 := by kernel_rfl
theorem cellsS : Tryz.prog.cellsOf 9 = 1 := by kernel_rfl
theorem cellsU : Tryz.prog.cellsOf 70 = 1 := by kernel_rfl
theorem cellsT : Tryz.prog.cellsOf 149 = 20 := by kernel_rfl
theorem star : "*" ++ "errors.errorString" = "*errors.errorString" := by decide
theorem rowES (u : TypeId) (h : Tryz.prog.typeName? 3 u = some "*errors.errorString") : u = 158 :=
  typeName_ptr_named (nm := "errors.errorString") (by rw [star]; kernel_rfl) (by kernel_rfl) (by decide) u (by rw [star]; exact h)

theorem gBA : Tryz.prog.globalNamed "partita/value.bases" = some 0 := by kernel_rfl
theorem gDO : Tryz.prog.globalNamed "partita/value.dotted" = some 1 := by kernel_rfl
theorem gKI : Tryz.prog.globalNamed "partita/value.kinds" = some 2 := by kernel_rfl
theorem gBAType : (Tryz.prog.globals[0]?).map (·.type) = some 65 := by kernel_rfl
theorem gDOType : (Tryz.prog.globals[1]?).map (·.type) = some 66 := by kernel_rfl
theorem gKIType : (Tryz.prog.globals[2]?).map (·.type) = some 78 := by kernel_rfl
theorem cellsI : Tryz.prog.cellsOf 3 = 1 := by kernel_rfl
theorem cellsB7 : Tryz.prog.cellsOf 65 = 7 := by kernel_rfl
theorem cellsD3 : Tryz.prog.cellsOf 66 = 3 := by kernel_rfl
theorem cellsVl : Tryz.prog.cellsOf 23 = 4 := by kernel_rfl

/-- The ten listed variables. -/
def laidV : List (String × DataW Unit) := Rows.valueTellsRow.laid

theorem pow_data : (Rows.laid_internal_strconv_uint64pow10 : DataW Unit) = Lib.tabData .u64 Lib.pow10Tab := by kernel_rfl
theorem base_data : (Rows.laid_partita_value_bases : DataW Unit) = Lib.tabData .i64 [64, 32, 16, 8, 4, 2, 1] := by kernel_rfl
theorem dot_data : (Rows.laid_partita_value_dotted : DataW Unit) = Lib.tabData .i64 [4, 6, 7] := by kernel_rfl
def kindRows : List (List Int) := [[0, 0, 0, 0], [0, 0, 3, 2], [0, 0, 5, 4], [0, 0, 7, 4]]
theorem kind_data : (Rows.laid_partita_value_kinds : DataW Unit) = .agg (kindRows.map fun r => .agg (r.map fun z => .lit (.int .i64 z))) := by kernel_rfl
theorem kind_cells {W : World} (h : Lib.VarReads Tryz.prog W "partita/value.kinds" Rows.laid_partita_value_kinds) : ∀ j : Nat, j < 16 → W.cell? ⟨2, j, none⟩ = some (.int .i64 ([0, 0, 0, 0, 0, 0, 3, 2, 0, 0, 5, 4, 0, 0, 7, 4].getD j 0)) := by
  rw [kind_data] at h
  obtain ⟨g, t, cs, fuel, p, hg, hty, hvar, hd⟩ := h
  obtain rfl := Option.some.inj (gKI.symm.trans hg)
  obtain rfl := Option.some.inj (gKIType.symm.trans hty)
  have key : ∀ i : Nat, i < 4 → ∀ r, kindRows[i]? = some r → ∀ j : Nat, j < 4 → cs.toList[i * 4 + j]? = (r.map fun z => Value.int .i64 z)[j]? := by
    intro i hi r hr j hj
    obtain ⟨fuel', d, q, hdi, he⟩ := Lib.array_elem Tryz.underlying78 hd i hi
    rw [List.getElem?_map, hr] at hdi
    simp only [Option.map_some, Option.some.injEq] at hdi
    subst hdi
    rw [cellsVl] at he
    have hcs := Lib.ints_of_struct Tryz.underlying23 (fun j f hj => by
      match j, hj with
      | 0, hj => simp at hj; subst hj; exact ⟨Tryz.underlying3, rfl, cellsI⟩
      | 1, hj => simp at hj; subst hj; exact ⟨Tryz.underlying3, rfl, cellsI⟩
      | 2, hj => simp at hj; subst hj; exact ⟨Tryz.underlying3, rfl, cellsI⟩
      | 3, hj => simp at hj; subst hj; exact ⟨Tryz.underlying3, rfl, cellsI⟩
      | j + 4, hj => simp at hj) (by rw [cellsVl]; rfl) he
    have e := congrArg (·[j]?) hcs
    simp only [List.getElem?_take, List.getElem?_drop, if_pos hj] at e
    exact e
  intro j hj
  rw [World.var?_cell hg hvar j, ← Array.getElem?_toList]
  have hk := fun i (hi : i < 4) r hr => key i hi r hr
  match j, hj with
  | 0, _ => exact hk 0 (by decide) _ rfl 0 (by decide)
  | 1, _ => exact hk 0 (by decide) _ rfl 1 (by decide)
  | 2, _ => exact hk 0 (by decide) _ rfl 2 (by decide)
  | 3, _ => exact hk 0 (by decide) _ rfl 3 (by decide)
  | 4, _ => exact hk 1 (by decide) _ rfl 0 (by decide)
  | 5, _ => exact hk 1 (by decide) _ rfl 1 (by decide)
  | 6, _ => exact hk 1 (by decide) _ rfl 2 (by decide)
  | 7, _ => exact hk 1 (by decide) _ rfl 3 (by decide)
  | 8, _ => exact hk 2 (by decide) _ rfl 0 (by decide)
  | 9, _ => exact hk 2 (by decide) _ rfl 1 (by decide)
  | 10, _ => exact hk 2 (by decide) _ rfl 2 (by decide)
  | 11, _ => exact hk 2 (by decide) _ rfl 3 (by decide)
  | 12, _ => exact hk 3 (by decide) _ rfl 0 (by decide)
  | 13, _ => exact hk 3 (by decide) _ rfl 1 (by decide)
  | 14, _ => exact hk 3 (by decide) _ rfl 2 (by decide)
  | 15, _ => exact hk 3 (by decide) _ rfl 3 (by decide)
  | j + 16, hj => exact absurd hj (by omega)

set_option maxRecDepth 100000 in
/-- WHAT THE CONDITION GIVES THE WALKS. -/
theorem vars_of {W : World} (h : laidMetH Tryz.prog laidV W) (hsh : W.ShapedOpen Tryz.prog) : Vars W := by
  rw [MakeChecks.laidMetH_plain _ _ _ (by kernel_rfl)] at h
  have h1 : laidMet Tryz.prog [("math/bits.deBruijn32tab", Rows.laid_math_bits_deBruijn32tab), ("math/bits.deBruijn64tab", Rows.laid_math_bits_deBruijn64tab), ("internal/strconv.uint64pow10", Rows.laid_internal_strconv_uint64pow10), ("unicode/utf8.acceptRanges", Rows.laid_unicode_utf8_acceptRanges), ("strconv.ErrRange", Rows.laid_strconv_ErrRange), ("strconv.ErrSyntax", Rows.laid_strconv_ErrSyntax), ("partita/value.bases", Rows.laid_partita_value_bases), ("partita/value.dotted", Rows.laid_partita_value_dotted), ("partita/value.kinds", Rows.laid_partita_value_kinds), ("unicode/utf8.first", Rows.laid_unicode_utf8_first)] W := h
  have h3 := h1.tail.tail
  have h5 := h3.tail.tail
  have h6 := h5.tail
  have h7 := h6.tail
  have h8 := h7.tail
  have hk := kind_cells (Lib.laidMet.reads h8.tail (List.mem_cons_self ..))
  rw [pow_data] at h3
  rw [base_data] at h7
  rw [dot_data] at h8
  obtain ⟨a0, s0, hv0, -, -, -⟩ := laid_sentinel h5 gER gERType Tryz.underlying90 rowES Tryz.underlying158 Tryz.underlying160 rfl rfl Tryz.underlying9 cellsES cellsS
  obtain ⟨a1, s1, hv1, -, -, -⟩ := laid_sentinel h6 gES gESType Tryz.underlying90 rowES Tryz.underlying158 Tryz.underlying160 rfl rfl Tryz.underlying9 cellsES cellsS
  have t7 := Lib.tabIs_of_head gBA gBAType Tryz.underlying65 Tryz.underlying3 cellsI cellsB7 h7
  have t8 := Lib.tabIs_of_head gDO gDOType Tryz.underlying66 Tryz.underlying3 cellsI cellsD3 h8
  refine ⟨⟨Lib.tabIs_of_head gPT gPTType Tryz.underlying149 Tryz.underlying70 cellsU cellsT h3,
    ⟨_, _, by have h0 := World.var?_cell gES hv1 0; simpa using h0⟩, ⟨_, _, by have h0 := World.var?_cell gER hv0 0; simpa using h0⟩, Tryz.laysM145.s1_3 W hsh⟩, ?_, ?_, hk⟩
  · intro j hj
    rw [t7.cell gBA j (by simpa using hj)]
    match j, hj with
    | 0, _ => rfl
    | 1, _ => rfl
    | 2, _ => rfl
    | 3, _ => rfl
    | 4, _ => rfl
    | 5, _ => rfl
    | 6, _ => rfl
  · intro j hj
    rw [t8.cell gDO j (by simpa using hj)]
    match j, hj with
    | 0, _ => rfl
    | 1, _ => rfl
    | 2, _ => rfl

set_option maxRecDepth 100000 in
theorem lay_met (os : Os) (args : Array Value) : laidMetH Tryz.prog laidV ((World.laidAll Tryz.prog os laidV).forCall (fun _ _ => 0) ⟨#[], args, []⟩).memory := by
  rw [MakeChecks.laidMetH_plain _ _ _ (by kernel_rfl)]
  exact laidMet_laidAll _ (by kernel_rfl) (by kernel_rfl)

/-- A law's contract: in whatever world in which the library's variables hold what they do, called with these arguments, it answers true, and of what was there nothing has turned. -/
def LawHolds (f : FuncId) (args : Array Value) (W : World) : Prop := Calls Tryz.prog f args W fun e W' => e = .returned (.bool true) ∧ Below W.heap.size W W'

section
variable {H : Type} {enc : TypeId × Value → H}
set_option maxRecDepth 100000 in
/-- THE LIFTING: listed variables and the world's shape both handed to the contract. -/
theorem lifted_of {os : Os} {f : FuncId} {fn : Func} {s : ChangeSpec} {apart fresh handsOn again : Bool} (started : os.Started) (noInit : Tryz.prog.inits.idxOf? f = none) (hfn : Tryz.prog.funcs[f]? = some fn)
    (witness : ∃ (w : World) (tape : Tape) (i : Input), w.os = os ∧ (w.forCall tape i).Shaped Tryz.prog ∧ i.vars = [] ∧ Input.okWide Tryz.prog (w.forCall tape i) .any w.heap.size f i ∧
      ((s.pre enc Tryz.prog fn [] apart (w.forCall tape i).memory i.args ∧ laidMetH Tryz.prog laidV (w.forCall tape i).memory) ∧ sizedMet enc Tryz.prog fn (OpenSpec.ofChange s) apart (w.forCall tape i).memory i.args) ∧ ({} : Assume).holds Tryz.prog (lone (Frame.enter Tryz.prog f i.args .normal) [] (w.forCall tape i)))
    (contract : ∀ (W : World) (base : Nat) (args : Array Value) (ds gs : List (DataW H)) (before : List MemPlace),
      (∀ (j : Nat) t v, fn.params[j]? = some t → args[j]? = some v → Value.okWide Tryz.prog W .any base t v) →
      DataW.Whole enc Tryz.prog fn.params.toList s.vars apart W args.toList ds gs before → Vars W →
      (DataW.weightsEach Tryz.prog (fn.params.toList ++ s.plain.varTypes Tryz.prog) (ds ++ gs)).all (· ≤ reachBytes) = true →
      Calls Tryz.prog f args W fun e W' => ∃ v, e = .returned v ∧ s.post enc Tryz.prog fn apart fresh handsOn again W args v W') :
    ReturnsInHanded {} Tryz.checked os f .any (fun w args => (s.pre enc Tryz.prog fn [] apart w args ∧ laidMetH Tryz.prog laidV w) ∧ sizedMet enc Tryz.prog fn (OpenSpec.ofChange s) apart w args) (s.post enc Tryz.prog fn apart fresh handsOn again) := by
  refine returnsInHanded_of_calls (C := Tryz.checked) own started noInit witness ?_
  intro w tape i _ hsh _ hok hpre _
  obtain ⟨_, _, _, fn', hfn', _, _, _, _, hval⟩ := hok
  have e : fn' = fn := Option.some.inj (hfn'.symm.trans hfn)
  subst e
  obtain ⟨⟨⟨ds, gs, before, hw, hc⟩, hx⟩, hz⟩ := hpre
  have hw' := DataW.Whole.of_heap (w' := w.forCall tape i) (by rfl) hw
  have hx' : laidMetH Tryz.prog laidV (w.forCall tape i) := laidMetH.of_heap (by rfl) hx
  refine (contract (w.forCall tape i) w.heap.size i.args ds gs before hval hw' (vars_of hx' hsh) (hz.weights hw)).mono fun e W' ⟨v, he, hp⟩ => ?_
  subst he
  exact ChangeSpec.post_blind hp
end
theorem i64_of_wf {a : Int} (h : (Lit.int .i64 a).wf = true) : Rat.I64 a := by
  have e1 : IntKind.i64.min = -9223372036854775808 := rfl
  have e2 : IntKind.i64.max = 9223372036854775807 := rfl
  simp [Lit.wf, e1, e2] at h
  exact h
theorem wf_of_i64 {a : Int} (h : Rat.I64 a) : (Lit.int .i64 a).wf = true := by
  have e1 : IntKind.i64.min = -9223372036854775808 := rfl
  have e2 : IntKind.i64.max = 9223372036854775807 := rfl
  simp [Lit.wf, e1, e2]
  exact h
theorem u8_of_wf {a : Int} (h : (Lit.int .u8 a).wf = true) : 0 ≤ a ∧ a ≤ 255 := by
  have e1 : IntKind.u8.min = 0 := rfl
  have e2 : IntKind.u8.max = 255 := rfl
  simp [Lit.wf, e1, e2] at h
  exact h

set_option maxRecDepth 100000 in
theorem cellsR : Tryz.prog.cellsOf 25 = 2 := by kernel_rfl

section
variable {H : Type} {enc : TypeId × Value → H} {w : World} {base : Nat} {spare : Nat → Bool} {held : Bool}
set_option maxRecDepth 100000 in
theorem open_rt {b0 : Nat} {v : Value} {d : DataW H} {p : List MemPlace} (hv : Value.okWide Tryz.prog w .any b0 25 v) (h : DataW.Trod enc Tryz.prog w base spare held 25 v d p) :
    ∃ a b : Int, v = rt a b ∧ d = .agg [.lit (.int .i64 a), .lit (.int .i64 b)] ∧ p = [] ∧ Rat.I64 a ∧ Rat.I64 b := by
  obtain ⟨v0, v1, y0, y1, n, rfl, rfl, rfl, h0, h1⟩ := Joins.open_agg2 Tryz.underlying25 (by kernel_rfl) cellsR hv h
  obtain ⟨k0, e0, x0, w0⟩ := DataW.trod_int Tryz.underlying3 h0
  obtain ⟨k1, e1, x1, w1⟩ := DataW.trod_int Tryz.underlying3 h1
  simp only [List.cons.injEq, and_true] at e0 e1
  subst e0; subst e1; subst x0; subst x1
  exact ⟨k0, k1, rfl, rfl, rfl, i64_of_wf w0, i64_of_wf w1⟩
set_option maxRecDepth 100000 in
theorem shut_rt {a b : Int} (ha : Rat.I64 a) (hb : Rat.I64 b) : DataW.Trod enc Tryz.prog w base spare held 25 (rt a b) (.agg [.lit (.int .i64 a), .lit (.int .i64 b)]) [] :=
  Joins.shut_agg2 (y0 := (.lit (.int .i64 a), [])) (y1 := (.lit (.int .i64 b), [])) Tryz.underlying25 (by kernel_rfl) cellsR
    ⟨1, by have := wf_of_i64 ha; simp [DataW.trod, Tryz.underlying3, this]⟩ ⟨1, by have := wf_of_i64 hb; simp [DataW.trod, Tryz.underlying3, this]⟩

set_option maxRecDepth 100000 in
theorem open_vl {b0 : Nat} {v : Value} {d : DataW H} {p : List MemPlace} (hv : Value.okWide Tryz.prog w .any b0 23 v) (h : DataW.Trod enc Tryz.prog w base spare held 23 v d p) :
    ∃ a b c e : Int, v = vl a b c e ∧ d = .agg [.lit (.int .i64 a), .lit (.int .i64 b), .lit (.int .i64 c), .lit (.int .i64 e)] ∧ p = [] ∧ Rat.I64 a ∧ Rat.I64 b ∧ Rat.I64 c ∧ Rat.I64 e := by
  obtain ⟨v0, v1, v2, v3, y0, y1, y2, y3, n, rfl, rfl, rfl, h0, h1, h2, h3⟩ := Joins.open_agg4 Tryz.underlying23 (by kernel_rfl) cellsVl hv h
  obtain ⟨k0, e0, x0, w0⟩ := DataW.trod_int Tryz.underlying3 h0
  obtain ⟨k1, e1, x1, w1⟩ := DataW.trod_int Tryz.underlying3 h1
  obtain ⟨k2, e2, x2, w2⟩ := DataW.trod_int Tryz.underlying3 h2
  obtain ⟨k3, e3, x3, w3⟩ := DataW.trod_int Tryz.underlying3 h3
  simp only [List.cons.injEq, and_true] at e0 e1 e2 e3
  subst e0; subst e1; subst e2; subst e3; subst x0; subst x1; subst x2; subst x3
  exact ⟨k0, k1, k2, k3, rfl, rfl, rfl, i64_of_wf w0, i64_of_wf w1, i64_of_wf w2, i64_of_wf w3⟩
set_option maxRecDepth 100000 in
theorem shut_vl {a b c e : Int} (ha : Rat.I64 a) (hb : Rat.I64 b) (hc : Rat.I64 c) (he : Rat.I64 e) : DataW.Trod enc Tryz.prog w base spare held 23 (vl a b c e) (.agg [.lit (.int .i64 a), .lit (.int .i64 b), .lit (.int .i64 c), .lit (.int .i64 e)]) [] :=
  Joins.shut_agg4 (y0 := (.lit (.int .i64 a), [])) (y1 := (.lit (.int .i64 b), [])) (y2 := (.lit (.int .i64 c), [])) (y3 := (.lit (.int .i64 e), [])) Tryz.underlying23 (by kernel_rfl) cellsVl
    ⟨1, by have := wf_of_i64 ha; simp [DataW.trod, Tryz.underlying3, this]⟩ ⟨1, by have := wf_of_i64 hb; simp [DataW.trod, Tryz.underlying3, this]⟩ ⟨1, by have := wf_of_i64 hc; simp [DataW.trod, Tryz.underlying3, this]⟩ ⟨1, by have := wf_of_i64 he; simp [DataW.trod, Tryz.underlying3, this]⟩
end
end Go.Proofs.YtejiifkenanodaaGreatDoor
