/-
  From a row's listed variables to what the walks ask of the world; and the lifting of a law's walk to its row.
-/
import Derived.Test.YtahcbgngdpjhkaaDoorKeyA
import Derived.ProofKit
import Derived.LaidMore
import Derived.OpenShut
import Derived.Stop.Joined
import Derived.Stop.LaidErr
import Derived.Lib.LaidTab
import Derived.HandedShaped
import Derived.Lib.SmallJoins
namespace Go.Proofs.YtahcbgngdpjhkaaDoor
open Go.ChangeShapes Go.WideShapes Go.ChangeAt Go.RowKit

theorem own : ownKnob Tryd.prog.godebug = none := by kernel_rfl
theorem gHV : Tryd.prog.globalNamed "partita/pitch.halves" = some 1 := by kernel_rfl
theorem gSG : Tryd.prog.globalNamed "partita/key.letters" = some 0 := by kernel_rfl
theorem gHVType : (Tryd.prog.globals[1]?).map (·.type) = some 89 := by kernel_rfl
theorem gSGType : (Tryd.prog.globals[0]?).map (·.type) = some 54 := by kernel_rfl
theorem cellsS : Tryd.prog.cellsOf 9 = 1 := by kernel_rfl
theorem cellsI : Tryd.prog.cellsOf 3 = 1 := by kernel_rfl
theorem cellsT7 : Tryd.prog.cellsOf 89 = 7 := by kernel_rfl
theorem cellsS7 : Tryd.prog.cellsOf 54 = 7 := by kernel_rfl

/-- The listed variables: the letters alone, the half tones and the letters. -/
def laidL : List (String × DataW Unit) := Rows.keyRightsRow.laid
def laidB : List (String × DataW Unit) := Rows.keySpellsRow.laid

/-- A laid array of strings: what each of its cells holds. (Fuel is taken apart once; the j-th reading is of the j-th cell alone.) -/
theorem str_cell {P : Program} {w : World} {base : Nat} {sp : Nat → Bool} {held : Bool} {t e : TypeId} {n : Nat} {cs : List Value} {zs : List (List UInt8)} {p : List MemPlace}
    (ht : P.underlying t = some (.array n e)) (he : P.underlying e = some .string) (hce : P.cellsOf e = 1) (hct : P.cellsOf t = n) {fuel : Nat}
    (h : DataW.trod (H := Unit) (fun _ => ()) P w base sp held (fuel + 1) t cs = some (.agg (zs.map fun z => .lit (.string z)), p)) {j : Nat} {z : List UInt8} (hz : zs[j]? = some z) : cs[j]? = some (.string ⟨z.toArray⟩) := by
  simp only [DataW.trod, ht, hce, hct, Nat.mul_one] at h
  by_cases hl : cs.length = n
  · rw [if_pos hl] at h
    obtain ⟨xs, hm, hx⟩ := Option.map_eq_some_iff.1 h
    obtain ⟨hx1, -⟩ := Prod.mk.inj hx
    injection hx1 with hx2
    obtain ⟨b, hb, hbz⟩ : ∃ b, xs[j]? = some b ∧ b.1 = .lit (.string z) := by
      have h3 : (xs.map Prod.fst)[j]? = some (.lit (.string z)) := by rw [hx2, List.getElem?_map, hz]; rfl
      rw [List.getElem?_map] at h3
      exact Option.map_eq_some_iff.1 h3
    have hj : j < n := by
      have h4 := (List.getElem?_eq_some_iff.1 hb).1
      rw [Lib.mapM_length hm, List.length_range] at h4
      exact h4
    obtain ⟨b', hb', hf⟩ := Lib.mapM_at hm j j (by rw [List.getElem?_range hj])
    obtain rfl : b' = b := Option.some.inj (hb'.symm.trans hb)
    obtain ⟨v, hv, rfl, -⟩ := DataW.trod_string he hf
    have hv2 : v.data.toList = z := by injection hbz with h5; injection h5
    have h6 : ((cs.drop j).take 1)[0]? = some (.string v) := by rw [hv]; rfl
    rw [List.getElem?_take, if_pos (by decide), List.getElem?_drop] at h6
    rw [← hv2]
    exact h6
  · rw [if_neg hl] at h
    cases h

theorem half_data : (Rows.laid_partita_pitch_halves : DataW Unit) = Lib.tabData .i64 [0, 2, 4, 5, 7, 9, 11] := by kernel_rfl
theorem lett_data : (Rows.laid_partita_key_letters : DataW Unit) = .agg ([[67], [68], [69], [70], [71], [65], [66]].map fun z => .lit (.string z)) := by kernel_rfl

theorem lett_met {W : World} (h7 : laidMet Tryd.prog [("partita/key.letters", Rows.laid_partita_key_letters)] W) : Lett W := by
  rw [lett_data] at h7
  obtain ⟨_, ⟨g7, t7, cs7, fuel7, p7, q7, hg7, ht7, hvar7, hd7, -, -⟩, -⟩ := h7
  obtain rfl := Option.some.inj (gSG.symm.trans hg7)
  obtain rfl := Option.some.inj (gSGType.symm.trans ht7)
  refine ⟨?_⟩
  intro j hj
  rw [World.var?_cell gSG hvar7 j]
  cases fuel7 with
  | zero => cases hd7
  | succ fuel7 =>
    have key : ∀ z, ([[67], [68], [69], [70], [71], [65], [66]] : List (List UInt8))[j]? = some z → cs7[j]? = some (.string ⟨z.toArray⟩) := fun z hz => by
      rw [← Array.getElem?_toList]
      exact str_cell Tryd.underlying54 Tryd.underlying9 cellsS cellsS7 hd7 hz
    match j, hj with
    | 0, _ => exact key _ rfl
    | 1, _ => exact key _ rfl
    | 2, _ => exact key _ rfl
    | 3, _ => exact key _ rfl
    | 4, _ => exact key _ rfl
    | 5, _ => exact key _ rfl
    | 6, _ => exact key _ rfl
/-- WHAT THE CONDITION GIVES THE WALKS. -/
theorem lett_of {W : World} (h : laidMetH Tryd.prog laidL W) : Lett W := by
  rw [MakeChecks.laidMetH_plain _ _ _ (by kernel_rfl)] at h
  exact lett_met h
theorem ready_of {W : World} (h : laidMetH Tryd.prog laidB W) : Ready W := by
  rw [MakeChecks.laidMetH_plain _ _ _ (by kernel_rfl)] at h
  have h6 : laidMet Tryd.prog [("partita/pitch.halves", Rows.laid_partita_pitch_halves), ("partita/key.letters", Rows.laid_partita_key_letters)] W := h
  refine ⟨?_, lett_met h6.tail⟩
  rw [half_data] at h6
  have t6 := Lib.tabIs_of_head gHV gHVType Tryd.underlying89 Tryd.underlying3 cellsI cellsT7 h6
  intro j hj
  rw [t6.cell gHV j (by simpa using hj)]
  match j, hj with
  | 0, _ => rfl
  | 1, _ => rfl
  | 2, _ => rfl
  | 3, _ => rfl
  | 4, _ => rfl
  | 5, _ => rfl
  | 6, _ => rfl

theorem door_metL (os : Os) (args : Array Value) : laidMetH Tryd.prog laidL ((World.doorLaid Tryd.prog 400 os).forCall (fun _ _ => 0) ⟨#[], args, []⟩).memory :=
  laidMetH_of_parts3 (fuel := 8) (laidMet_of_run' 8 (by kernel_rfl) (by kernel_rfl)) (by kernel_rfl) (by kernel_rfl)
theorem door_metB (os : Os) (args : Array Value) : laidMetH Tryd.prog laidB ((World.doorLaid Tryd.prog 400 os).forCall (fun _ _ => 0) ⟨#[], args, []⟩).memory :=
  laidMetH_of_parts3 (fuel := 8) (laidMet_of_run' 8 (by kernel_rfl) (by kernel_rfl)) (by kernel_rfl) (by kernel_rfl)

/-- A law's contract: in whatever world in which the variables hold what they do, called with these arguments, it answers true, and of what was there nothing has turned. -/
def LawHolds (f : FuncId) (args : Array Value) (W : World) : Prop := Calls Tryd.prog f args W fun e W' => e = .returned (.bool true) ∧ Below W.heap.size W W'

section
variable {H : Type} {enc : TypeId × Value → H}
/-- THE LIFTING: listed variables handed to the contract. -/
theorem lifted_of {laid7 : List (String × DataW Unit)} {Rd : World → Prop} (ready_of : ∀ {W : World}, laidMetH Tryd.prog laid7 W → Rd W) {os : Os} {f : FuncId} {fn : Func} {s : ChangeSpec} {apart fresh handsOn again : Bool} (started : os.Started) (noInit : Tryd.prog.inits.idxOf? f = none) (hfn : Tryd.prog.funcs[f]? = some fn)
    (witness : ∃ (w : World) (tape : Tape) (i : Input), w.os = os ∧ (w.forCall tape i).Shaped Tryd.prog ∧ i.vars = [] ∧ Input.okWide Tryd.prog (w.forCall tape i) .any w.heap.size f i ∧
      ((s.pre enc Tryd.prog fn [] apart (w.forCall tape i).memory i.args ∧ laidMetH Tryd.prog laid7 (w.forCall tape i).memory) ∧ sizedMet enc Tryd.prog fn (OpenSpec.ofChange s) apart (w.forCall tape i).memory i.args) ∧ ({} : Assume).holds Tryd.prog (lone (Frame.enter Tryd.prog f i.args .normal) [] (w.forCall tape i)))
    (contract : ∀ (W : World) (base : Nat) (args : Array Value) (ds gs : List (DataW H)) (before : List MemPlace),
      (∀ (j : Nat) t v, fn.params[j]? = some t → args[j]? = some v → Value.okWide Tryd.prog W .any base t v) →
      DataW.Whole enc Tryd.prog fn.params.toList s.vars apart W args.toList ds gs before → Rd W →
      (DataW.weightsEach Tryd.prog (fn.params.toList ++ s.plain.varTypes Tryd.prog) (ds ++ gs)).all (· ≤ reachBytes) = true →
      Calls Tryd.prog f args W fun e W' => ∃ v, e = .returned v ∧ s.post enc Tryd.prog fn apart fresh handsOn again W args v W') :
    ReturnsInHanded {} Tryd.checked os f .any (fun w args => (s.pre enc Tryd.prog fn [] apart w args ∧ laidMetH Tryd.prog laid7 w) ∧ sizedMet enc Tryd.prog fn (OpenSpec.ofChange s) apart w args) (s.post enc Tryd.prog fn apart fresh handsOn again) := by
  refine returnsInHanded_of_calls (C := Tryd.checked) own started noInit witness ?_
  intro w tape i _ _ _ hok hpre _
  obtain ⟨_, _, _, fn', hfn', _, _, _, _, hval⟩ := hok
  have e : fn' = fn := Option.some.inj (hfn'.symm.trans hfn)
  subst e
  obtain ⟨⟨⟨ds, gs, before, hw, hc⟩, hx⟩, hz⟩ := hpre
  have hw' := DataW.Whole.of_heap (w' := w.forCall tape i) (by rfl) hw
  have hx' : laidMetH Tryd.prog laid7 (w.forCall tape i) := laidMetH.of_heap (by rfl) hx
  refine (contract (w.forCall tape i) w.heap.size i.args ds gs before hval hw' (ready_of hx') (hz.weights hw)).mono fun e W' ⟨v, he, hp⟩ => ?_
  subst he
  exact ChangeSpec.post_blind hp
end

/-! ### Keys, intervals and pairs of bytes among the arguments, opened and shut -/
theorem i64_of_wf {a : Int} (h : (Lit.int .i64 a).wf = true) : Pit.I64 a := by
  have e1 : IntKind.i64.min = -9223372036854775808 := rfl
  have e2 : IntKind.i64.max = 9223372036854775807 := rfl
  simp [Lit.wf, e1, e2] at h
  exact h
theorem wf_of_i64 {a : Int} (h : Pit.I64 a) : (Lit.int .i64 a).wf = true := by
  have e1 : IntKind.i64.min = -9223372036854775808 := rfl
  have e2 : IntKind.i64.max = 9223372036854775807 := rfl
  simp [Lit.wf, e1, e2]
  exact h
theorem u8_of_wf {a : Int} (h : (Lit.int .u8 a).wf = true) : 0 ≤ a ∧ a ≤ 255 := by
  have e1 : IntKind.u8.min = 0 := rfl
  have e2 : IntKind.u8.max = 255 := rfl
  simp [Lit.wf, e1, e2] at h
  exact h
theorem cellsK : Tryd.prog.cellsOf 23 = 2 := by kernel_rfl
theorem cellsU8 : Tryd.prog.cellsOf 5 = 1 := by kernel_rfl
theorem cellsA2 : Tryd.prog.cellsOf 48 = 2 := by kernel_rfl
theorem cellsV : Tryd.prog.cellsOf 37 = 2 := by kernel_rfl
section
variable {H : Type} {enc : TypeId × Value → H} {w : World} {base : Nat} {spare : Nat → Bool} {held : Bool}
theorem open_iv {b0 : Nat} {v : Value} {d : DataW H} {p : List MemPlace} (hv : Value.okWide Tryd.prog w .any b0 37 v) (h : DataW.Trod enc Tryd.prog w base spare held 37 v d p) :
    ∃ a b : Int, v = iv a b ∧ d = .agg [.lit (.int .i64 a), .lit (.int .i64 b)] ∧ p = [] ∧ Pit.I64 a ∧ Pit.I64 b := by
  obtain ⟨v0, v1, y0, y1, n, rfl, rfl, rfl, h0, h1⟩ := Joins.open_agg2 Tryd.underlying37 (by kernel_rfl) cellsV hv h
  obtain ⟨k0, e0, x0, w0⟩ := DataW.trod_int Tryd.underlying3 h0
  obtain ⟨k1, e1, x1, w1⟩ := DataW.trod_int Tryd.underlying3 h1
  simp only [List.cons.injEq, and_true] at e0 e1
  subst e0; subst e1; subst x0; subst x1
  exact ⟨k0, k1, rfl, rfl, rfl, i64_of_wf w0, i64_of_wf w1⟩
theorem shut_iv {a b : Int} (ha : Pit.I64 a) (hb : Pit.I64 b) : DataW.Trod enc Tryd.prog w base spare held 37 (iv a b) (.agg [.lit (.int .i64 a), .lit (.int .i64 b)]) [] :=
  Joins.shut_agg2 (y0 := (.lit (.int .i64 a), [])) (y1 := (.lit (.int .i64 b), [])) Tryd.underlying37 (by kernel_rfl) cellsV
    ⟨1, by have := wf_of_i64 ha; simp [DataW.trod, Tryd.underlying3, this]⟩ ⟨1, by have := wf_of_i64 hb; simp [DataW.trod, Tryd.underlying3, this]⟩
theorem open_ky {b0 : Nat} {v : Value} {d : DataW H} {p : List MemPlace} (hv : Value.okWide Tryd.prog w .any b0 23 v) (h : DataW.Trod enc Tryd.prog w base spare held 23 v d p) :
    ∃ (a : Int) (b : Bool), v = ky a b ∧ d = .agg [.lit (.int .i64 a), .lit (.bool b)] ∧ p = [] ∧ Pit.I64 a := by
  obtain ⟨v0, v1, y0, y1, n, rfl, rfl, rfl, h0, h1⟩ := Joins.open_agg2 Tryd.underlying23 (by kernel_rfl) cellsK hv h
  obtain ⟨k0, e0, x0, w0⟩ := DataW.trod_int Tryd.underlying3 h0
  obtain ⟨k1, e1, x1⟩ := DataW.trod_bool Tryd.underlying4 h1
  simp only [List.cons.injEq, and_true] at e0 e1
  subst e0; subst e1; subst x0; subst x1
  exact ⟨k0, k1, rfl, rfl, rfl, i64_of_wf w0⟩
theorem shut_ky {a : Int} {b : Bool} (ha : Pit.I64 a) : DataW.Trod enc Tryd.prog w base spare held 23 (ky a b) (.agg [.lit (.int .i64 a), .lit (.bool b)]) [] :=
  Joins.shut_agg2 (y0 := (.lit (.int .i64 a), [])) (y1 := (.lit (.bool b), [])) Tryd.underlying23 (by kernel_rfl) cellsK
    ⟨1, by have := wf_of_i64 ha; simp [DataW.trod, Tryd.underlying3, this]⟩ ⟨1, by simp [DataW.trod, Tryd.underlying4]⟩
theorem wf_of_u8 {a : Int} (h0 : 0 ≤ a) (h1 : a ≤ 255) : (Lit.int .u8 a).wf = true := by
  have e1 : IntKind.u8.min = 0 := rfl
  have e2 : IntKind.u8.max = 255 := rfl
  simp [Lit.wf, e1, e2]
  omega
theorem open_a2 {b0 : Nat} {v : Value} {d : DataW H} {p : List MemPlace} (hv : Value.okWide Tryd.prog w .any b0 48 v) (h : DataW.Trod enc Tryd.prog w base spare held 48 v d p) :
    ∃ a b : Int, v = .agg #[.int .u8 a, .int .u8 b] ∧ d = .agg [.lit (.int .u8 a), .lit (.int .u8 b)] ∧ p = [] ∧ (0 ≤ a ∧ a ≤ 255) ∧ (0 ≤ b ∧ b ≤ 255) := by
  simp only [Value.okWide, Tryd.underlying48] at hv
  obtain ⟨cs, rfl, hsz, _⟩ := hv
  obtain ⟨c0, c1, rfl⟩ : ∃ c0 c1, cs = #[c0, c1] := by
    rw [cellsA2] at hsz
    obtain ⟨l⟩ := cs
    match l, hsz with
    | [x, y], _ => exact ⟨x, y, rfl⟩
  obtain ⟨fuel, hf⟩ := h
  obtain ⟨xs, m, _, hx, _, hlen, hy⟩ := DataW.trod_array Tryd.underlying48 hf
  match xs, hlen with
  | [y0, y1], _ =>
    have h0 := hy 0 (by decide)
    have h1 := hy 1 (by decide)
    simp only [cellsU8, Value.cells] at h0 h1
    obtain ⟨k0, e0, x0, w0⟩ := DataW.trod_int Tryd.underlying5 (x := y0) h0
    obtain ⟨k1, e1, x1, w1⟩ := DataW.trod_int Tryd.underlying5 (x := y1) h1
    simp at e0 e1
    subst e0; subst e1; subst x0; subst x1
    simp only [Prod.mk.injEq] at hx
    exact ⟨k0, k1, rfl, hx.1, hx.2, u8_of_wf w0, u8_of_wf w1⟩
theorem shut_a2 {a b : Int} (ha : 0 ≤ a ∧ a ≤ 255) (hb : 0 ≤ b ∧ b ≤ 255) : DataW.Trod enc Tryd.prog w base spare held 48 (.agg #[.int .u8 a, .int .u8 b]) (.agg [.lit (.int .u8 a), .lit (.int .u8 b)]) [] := by
  have wa := wf_of_u8 ha.1 ha.2
  have wb := wf_of_u8 hb.1 hb.2
  have r2 : List.range 2 = [0, 1] := rfl
  exact ⟨2, by simp [DataW.trod, Tryd.underlying48, Tryd.underlying5, cellsU8, cellsA2, Value.cells, r2, wa, wb]⟩
end
end Go.Proofs.YtahcbgngdpjhkaaDoor
