/-
  From a row's listed variables to what the walks ask of the world; and the lifting of a law's walk to its row.
-/
import Derived.Test.YtoopchnncjfjoaaDoorPitA
import Derived.ProofKit
import Derived.LaidMore
import Derived.OpenShut
import Derived.Stop.Joined
import Derived.Stop.LaidErr
import Derived.Lib.LaidTab
import Derived.HandedShaped
import Derived.Lib.SmallJoins
namespace Go.Proofs.YtoopchnncjfjoaaDoor
open Go.ChangeShapes Go.WideShapes Go.ChangeAt Go.RowKit

theorem own : ownKnob Tryd.prog.godebug = none := by kernel_rfl
theorem gES : Tryd.prog.globalNamed "strconv.ErrSyntax" = some 2 := by kernel_rfl
theorem gER : Tryd.prog.globalNamed "strconv.ErrRange" = some 3 := by kernel_rfl
theorem gPT : Tryd.prog.globalNamed "internal/strconv.uint64pow10" = some 4 := by kernel_rfl
theorem gHV : Tryd.prog.globalNamed "partita/pitch.halves" = some 1 := by kernel_rfl
theorem gSG : Tryd.prog.globalNamed "partita/pitch.signs" = some 0 := by kernel_rfl
theorem gESType : (Tryd.prog.globals[2]?).map (·.type) = some 61 := by kernel_rfl
theorem gERType : (Tryd.prog.globals[3]?).map (·.type) = some 61 := by kernel_rfl
theorem gPTType : (Tryd.prog.globals[4]?).map (·.type) = some 89 := by kernel_rfl
theorem gHVType : (Tryd.prog.globals[1]?).map (·.type) = some 64 := by kernel_rfl
theorem gSGType : (Tryd.prog.globals[0]?).map (·.type) = some 54 := by kernel_rfl
theorem cellsES : Tryd.prog.cellsOf 98 = 1 := by kernel_rfl
theorem cellsS : Tryd.prog.cellsOf 9 = 1 := by kernel_rfl
theorem cellsU : Tryd.prog.cellsOf 76 = 1 := by kernel_rfl
theorem cellsI : Tryd.prog.cellsOf 3 = 1 := by kernel_rfl
theorem cellsT : Tryd.prog.cellsOf 89 = 20 := by kernel_rfl
theorem cellsT7 : Tryd.prog.cellsOf 64 = 7 := by kernel_rfl
theorem cellsT5 : Tryd.prog.cellsOf 54 = 5 := by kernel_rfl
theorem star : "*" ++ "errors.errorString" = "*errors.errorString" := by decide
theorem rowES (u : TypeId) (h : Tryd.prog.typeName? 3 u = some "*errors.errorString") : u = 96 :=
  typeName_ptr_named (nm := "errors.errorString") (by rw [star]; kernel_rfl) (by kernel_rfl) (by decide) u (by rw [star]; exact h)

/-- The seven listed variables. -/
def laid7 : List (String × DataW Unit) := Rows.pitchSignsRow.laid

/-- A laid array of strings: what each of its cells holds. (Fuel is taken apart once; the j-th reading is of the j-th cell alone.) -/
theorem str_cell {P : Program} {w : World} {base : Nat} {sp : Nat → Bool} {held : Bool} {t e : TypeId} {n : Nat} {cs : List Value} {zs : List (List UInt8)} {p : List MemPlace}
    (ht : P.underlying t = some (.array n e)) (he : P.underlying e = some .string) (hce : P.cellsOf e = 1) (hct : P.cellsOf t = n) {fuel : Nat}
    (h : DataW.trod (H := Unit) (fun _ => ()) P w base sp held (fuel + 1) t cs = some (.agg (zs.map fun z => .lit (.string z)), p)) {j : Nat} {z : List UInt8} (hz : zs[j]? = some z) : cs[j]? = some (.string ⟨z.toArray⟩) := by
  simp only [DataW.trod, ht, hce, hct, Nat.mul_one] at h
  by_cases hl : cs.length = n
  · rw [if_pos hl] at h
    obtain ⟨xs, hm, hx⟩ := Option.map_eq_some_iff.1 h
    obtain ⟨hx1, -⟩ := Prod.mk.inj hx
    injection hx1 with hx2
    obtain ⟨b, hb, hbz⟩ : ∃ b, xs[j]? = some b ∧ b.1 = .lit (.string z) := by
      have h3 : (xs.map Prod.fst)[j]? = some (.lit (.string z)) := by rw [hx2, List.getElem?_map, hz]; rfl
      rw [List.getElem?_map] at h3
      exact Option.map_eq_some_iff.1 h3
    have hj : j < n := by
      have h4 := (List.getElem?_eq_some_iff.1 hb).1
      rw [Lib.mapM_length hm, List.length_range] at h4
      exact h4
    obtain ⟨b', hb', hf⟩ := Lib.mapM_at hm j j (by rw [List.getElem?_range hj])
    obtain rfl : b' = b := Option.some.inj (hb'.symm.trans hb)
    obtain ⟨v, hv, rfl, -⟩ := DataW.trod_string he hf
    have hv2 : v.data.toList = z := by injection hbz with h5; injection h5
    have h6 : ((cs.drop j).take 1)[0]? = some (.string v) := by rw [hv]; rfl
    rw [List.getElem?_take, if_pos (by decide), List.getElem?_drop] at h6
    rw [← hv2]
    exact h6
  · rw [if_neg hl] at h
    cases h

theorem pow_data : (Rows.laid_internal_strconv_uint64pow10 : DataW Unit) = Lib.tabData .u64 Lib.pow10Tab := by kernel_rfl
theorem half_data : (Rows.laid_partita_pitch_halves : DataW Unit) = Lib.tabData .i64 [0, 2, 4, 5, 7, 9, 11] := by kernel_rfl
theorem sign_data : (Rows.laid_partita_pitch_signs : DataW Unit) = .agg ([[98, 98], [98], [], [35], [35, 35]].map fun z => .lit (.string z)) := by kernel_rfl

/-- WHAT THE CONDITION GIVES THE WALKS. -/
theorem ready_of {W : World} (h : laidMetH Tryd.prog laid7 W) : Ready W := by
  rw [MakeChecks.laidMetH_plain _ _ _ (by kernel_rfl)] at h
  have h1 : laidMet Tryd.prog [("math/bits.deBruijn32tab", Rows.laid_math_bits_deBruijn32tab), ("math/bits.deBruijn64tab", Rows.laid_math_bits_deBruijn64tab), ("internal/strconv.uint64pow10", Rows.laid_internal_strconv_uint64pow10), ("strconv.ErrRange", Rows.laid_strconv_ErrRange), ("strconv.ErrSyntax", Rows.laid_strconv_ErrSyntax), ("partita/pitch.halves", Rows.laid_partita_pitch_halves), ("partita/pitch.signs", Rows.laid_partita_pitch_signs)] W := h
  have h3 := h1.tail.tail
  have h4 := h3.tail
  have h5 := h4.tail
  have h6 := h5.tail
  have h7 := h6.tail
  rw [pow_data] at h3
  rw [half_data] at h6
  rw [sign_data] at h7
  obtain ⟨a0, s0, hv0, -, -, -⟩ := laid_sentinel h4 gER gERType Tryd.underlying61 rowES Tryd.underlying96 Tryd.underlying98 rfl rfl Tryd.underlying9 cellsES cellsS
  obtain ⟨a1, s1, hv1, -, -, -⟩ := laid_sentinel h5 gES gESType Tryd.underlying61 rowES Tryd.underlying96 Tryd.underlying98 rfl rfl Tryd.underlying9 cellsES cellsS
  have t6 := Lib.tabIs_of_head gHV gHVType Tryd.underlying64 Tryd.underlying3 cellsI cellsT7 h6
  obtain ⟨_, ⟨g7, t7, cs7, fuel7, p7, q7, hg7, ht7, hvar7, hd7, -, -⟩, -⟩ := h7
  obtain rfl := Option.some.inj (gSG.symm.trans hg7)
  obtain rfl := Option.some.inj (gSGType.symm.trans ht7)
  refine ⟨Lib.tabIs_of_head gPT gPTType Tryd.underlying89 Tryd.underlying76 cellsU cellsT h3,
    ⟨_, _, by have h0 := World.var?_cell gES hv1 0; simpa using h0⟩, ⟨_, _, by have h0 := World.var?_cell gER hv0 0; simpa using h0⟩, ?_, ?_⟩
  · intro j hj
    rw [t6.cell gHV j (by simpa using hj)]
    match j, hj with
    | 0, _ => rfl
    | 1, _ => rfl
    | 2, _ => rfl
    | 3, _ => rfl
    | 4, _ => rfl
    | 5, _ => rfl
    | 6, _ => rfl
  · intro j hj
    rw [World.var?_cell gSG hvar7 j]
    cases fuel7 with
    | zero => cases hd7
    | succ fuel7 =>
      have key : ∀ z, ([[98, 98], [98], [], [35], [35, 35]] : List (List UInt8))[j]? = some z → cs7[j]? = some (.string ⟨z.toArray⟩) := fun z hz => by
        rw [← Array.getElem?_toList]
        exact str_cell Tryd.underlying54 Tryd.underlying9 cellsS cellsT5 hd7 hz
      match j, hj with
      | 0, _ => exact key _ rfl
      | 1, _ => exact key _ rfl
      | 2, _ => exact key _ rfl
      | 3, _ => exact key _ rfl
      | 4, _ => exact key _ rfl

theorem door_met (os : Os) (args : Array Value) : laidMetH Tryd.prog laid7 ((World.doorLaid Tryd.prog 400 os).forCall (fun _ _ => 0) ⟨#[], args, []⟩).memory :=
  laidMetH_of_parts3 (fuel := 8) (laidMet_of_run' 8 (by kernel_rfl) (by kernel_rfl)) (by kernel_rfl) (by kernel_rfl)

/-- A law's contract: in whatever world in which the variables hold what they do, called with these arguments, it answers true, and of what was there nothing has turned. -/
def LawHolds (f : FuncId) (args : Array Value) (W : World) : Prop := Calls Tryd.prog f args W fun e W' => e = .returned (.bool true) ∧ Below W.heap.size W W'

section
variable {H : Type} {enc : TypeId × Value → H}
/-- THE LIFTING: listed variables handed to the contract. -/
theorem lifted_of {os : Os} {f : FuncId} {fn : Func} {s : ChangeSpec} {apart fresh handsOn again : Bool} (started : os.Started) (noInit : Tryd.prog.inits.idxOf? f = none) (hfn : Tryd.prog.funcs[f]? = some fn)
    (witness : ∃ (w : World) (tape : Tape) (i : Input), w.os = os ∧ (w.forCall tape i).Shaped Tryd.prog ∧ i.vars = [] ∧ Input.okWide Tryd.prog (w.forCall tape i) .any w.heap.size f i ∧
      ((s.pre enc Tryd.prog fn [] apart (w.forCall tape i).memory i.args ∧ laidMetH Tryd.prog laid7 (w.forCall tape i).memory) ∧ sizedMet enc Tryd.prog fn (OpenSpec.ofChange s) apart (w.forCall tape i).memory i.args) ∧ ({} : Assume).holds Tryd.prog (lone (Frame.enter Tryd.prog f i.args .normal) [] (w.forCall tape i)))
    (contract : ∀ (W : World) (base : Nat) (args : Array Value) (ds gs : List (DataW H)) (before : List MemPlace),
      (∀ (j : Nat) t v, fn.params[j]? = some t → args[j]? = some v → Value.okWide Tryd.prog W .any base t v) →
      DataW.Whole enc Tryd.prog fn.params.toList s.vars apart W args.toList ds gs before → Ready W →
      (DataW.weightsEach Tryd.prog (fn.params.toList ++ s.plain.varTypes Tryd.prog) (ds ++ gs)).all (· ≤ reachBytes) = true →
      Calls Tryd.prog f args W fun e W' => ∃ v, e = .returned v ∧ s.post enc Tryd.prog fn apart fresh handsOn again W args v W') :
    ReturnsInHanded {} Tryd.checked os f .any (fun w args => (s.pre enc Tryd.prog fn [] apart w args ∧ laidMetH Tryd.prog laid7 w) ∧ sizedMet enc Tryd.prog fn (OpenSpec.ofChange s) apart w args) (s.post enc Tryd.prog fn apart fresh handsOn again) := by
  refine returnsInHanded_of_calls (C := Tryd.checked) own started noInit witness ?_
  intro w tape i _ _ _ hok hpre _
  obtain ⟨_, _, _, fn', hfn', _, _, _, _, hval⟩ := hok
  have e : fn' = fn := Option.some.inj (hfn'.symm.trans hfn)
  subst e
  obtain ⟨⟨⟨ds, gs, before, hw, hc⟩, hx⟩, hz⟩ := hpre
  have hw' := DataW.Whole.of_heap (w' := w.forCall tape i) (by rfl) hw
  have hx' : laidMetH Tryd.prog laid7 (w.forCall tape i) := laidMetH.of_heap (by rfl) hx
  refine (contract (w.forCall tape i) w.heap.size i.args ds gs before hval hw' (ready_of hx') (hz.weights hw)).mono fun e W' ⟨v, he, hp⟩ => ?_
  subst he
  exact ChangeSpec.post_blind hp
end

/-! ### Pitches and intervals among the arguments, opened and shut -/
theorem i64_of_wf {a : Int} (h : (Lit.int .i64 a).wf = true) : Pit.I64 a := by
  have e1 : IntKind.i64.min = -9223372036854775808 := rfl
  have e2 : IntKind.i64.max = 9223372036854775807 := rfl
  simp [Lit.wf, e1, e2] at h
  exact h
theorem wf_of_i64 {a : Int} (h : Pit.I64 a) : (Lit.int .i64 a).wf = true := by
  have e1 : IntKind.i64.min = -9223372036854775808 := rfl
  have e2 : IntKind.i64.max = 9223372036854775807 := rfl
  simp [Lit.wf, e1, e2]
  exact h
theorem u8_of_wf {a : Int} (h : (Lit.int .u8 a).wf = true) : 0 ≤ a ∧ a ≤ 255 := by
  have e1 : IntKind.u8.min = 0 := rfl
  have e2 : IntKind.u8.max = 255 := rfl
  simp [Lit.wf, e1, e2] at h
  exact h
theorem cellsP : Tryd.prog.cellsOf 23 = 3 := by kernel_rfl
theorem cellsV : Tryd.prog.cellsOf 25 = 2 := by kernel_rfl
section
variable {H : Type} {enc : TypeId × Value → H} {w : World} {base : Nat} {spare : Nat → Bool} {held : Bool}
theorem open_iv {b0 : Nat} {v : Value} {d : DataW H} {p : List MemPlace} (hv : Value.okWide Tryd.prog w .any b0 25 v) (h : DataW.Trod enc Tryd.prog w base spare held 25 v d p) :
    ∃ a b : Int, v = iv a b ∧ d = .agg [.lit (.int .i64 a), .lit (.int .i64 b)] ∧ p = [] ∧ Pit.I64 a ∧ Pit.I64 b := by
  obtain ⟨v0, v1, y0, y1, n, rfl, rfl, rfl, h0, h1⟩ := Joins.open_agg2 Tryd.underlying25 (by kernel_rfl) cellsV hv h
  obtain ⟨k0, e0, x0, w0⟩ := DataW.trod_int Tryd.underlying3 h0
  obtain ⟨k1, e1, x1, w1⟩ := DataW.trod_int Tryd.underlying3 h1
  simp only [List.cons.injEq, and_true] at e0 e1
  subst e0; subst e1; subst x0; subst x1
  exact ⟨k0, k1, rfl, rfl, rfl, i64_of_wf w0, i64_of_wf w1⟩
theorem shut_iv {a b : Int} (ha : Pit.I64 a) (hb : Pit.I64 b) : DataW.Trod enc Tryd.prog w base spare held 25 (iv a b) (.agg [.lit (.int .i64 a), .lit (.int .i64 b)]) [] :=
  Joins.shut_agg2 (y0 := (.lit (.int .i64 a), [])) (y1 := (.lit (.int .i64 b), [])) Tryd.underlying25 (by kernel_rfl) cellsV
    ⟨1, by have := wf_of_i64 ha; simp [DataW.trod, Tryd.underlying3, this]⟩ ⟨1, by have := wf_of_i64 hb; simp [DataW.trod, Tryd.underlying3, this]⟩
theorem open_pt {b0 : Nat} {v : Value} {d : DataW H} {p : List MemPlace} (hv : Value.okWide Tryd.prog w .any b0 23 v) (h : DataW.Trod enc Tryd.prog w base spare held 23 v d p) :
    ∃ a b c : Int, v = pt a b c ∧ d = .agg [.lit (.int .i64 a), .lit (.int .i64 b), .lit (.int .i64 c)] ∧ p = [] ∧ Pit.I64 a ∧ Pit.I64 b ∧ Pit.I64 c := by
  obtain ⟨v0, v1, v2, y0, y1, y2, n, rfl, rfl, rfl, h0, h1, h2⟩ := Joins.open_agg3 Tryd.underlying23 (by kernel_rfl) cellsP hv h
  obtain ⟨k0, e0, x0, w0⟩ := DataW.trod_int Tryd.underlying3 h0
  obtain ⟨k1, e1, x1, w1⟩ := DataW.trod_int Tryd.underlying3 h1
  obtain ⟨k2, e2, x2, w2⟩ := DataW.trod_int Tryd.underlying3 h2
  simp only [List.cons.injEq, and_true] at e0 e1 e2
  subst e0; subst e1; subst e2; subst x0; subst x1; subst x2
  exact ⟨k0, k1, k2, rfl, rfl, rfl, i64_of_wf w0, i64_of_wf w1, i64_of_wf w2⟩
theorem shut_pt {a b c : Int} (ha : Pit.I64 a) (hb : Pit.I64 b) (hc : Pit.I64 c) : DataW.Trod enc Tryd.prog w base spare held 23 (pt a b c) (.agg [.lit (.int .i64 a), .lit (.int .i64 b), .lit (.int .i64 c)]) [] :=
  Joins.shut_agg3 (y0 := (.lit (.int .i64 a), [])) (y1 := (.lit (.int .i64 b), [])) (y2 := (.lit (.int .i64 c), [])) Tryd.underlying23 (by kernel_rfl) cellsP
    ⟨1, by have := wf_of_i64 ha; simp [DataW.trod, Tryd.underlying3, this]⟩ ⟨1, by have := wf_of_i64 hb; simp [DataW.trod, Tryd.underlying3, this]⟩ ⟨1, by have := wf_of_i64 hc; simp [DataW.trod, Tryd.underlying3, this]⟩
end
end Go.Proofs.YtoopchnncjfjoaaDoor
