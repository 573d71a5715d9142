/-
  From a row's six listed variables to what the walks ask of the world; the lifting of a law's walk to its row; lists of numbers among the arguments, opened.
-/
import Derived.Test.YtobhmiknlbjmkaaDoorVoSpl
import Derived.ProofKit
import Derived.LaidMore
import Derived.OpenShut
import Derived.Stop.Joined
import Derived.Stop.LaidErr
import Derived.Lib.LaidTab
import Derived.Lib.LaidU8
import Derived.HandedShaped
import Derived.SizedLaws
import Derived.Carry
import Derived.Lib.SmallJoins
import Derived.Lay
namespace Go.Proofs.YtobhmiknlbjmkaaDoor
open Go.ChangeShapes Go.WideShapes Go.ChangeAt Go.RowKit
open Evt (P3 Ev)

theorem own : ownKnob Tryd.prog.godebug = none := by kernel_rfl
theorem rowLaid : laidOutB Tryd.prog = true := by kernel_rfl
theorem gHV : Tryd.prog.globalNamed "partita/pitch.halves" = some 5 := by kernel_rfl
theorem gBA : Tryd.prog.globalNamed "partita/value.bases" = some 3 := by kernel_rfl
theorem gDO : Tryd.prog.globalNamed "partita/value.dotted" = some 4 := by kernel_rfl
theorem gFI : Tryd.prog.globalNamed "unicode/utf8.first" = some 1 := by kernel_rfl
theorem gAC : Tryd.prog.globalNamed "unicode/utf8.acceptRanges" = some 2 := by kernel_rfl
theorem gKI : Tryd.prog.globalNamed "partita/value.kinds" = some 0 := by kernel_rfl
theorem gKIType : (Tryd.prog.globals[0]?).map (·.type) = some 117 := by kernel_rfl
theorem gHVType : (Tryd.prog.globals[5]?).map (·.type) = some 149 := by kernel_rfl
theorem gBAType : (Tryd.prog.globals[3]?).map (·.type) = some 149 := by kernel_rfl
theorem gDOType : (Tryd.prog.globals[4]?).map (·.type) = some 150 := by kernel_rfl
theorem gFIType : (Tryd.prog.globals[1]?).map (·.type) = some 138 := by kernel_rfl
theorem gACType : (Tryd.prog.globals[2]?).map (·.type) = some 141 := by kernel_rfl
theorem cellsI : Tryd.prog.cellsOf 3 = 1 := by kernel_rfl
theorem cellsU8 : Tryd.prog.cellsOf 5 = 1 := by kernel_rfl
theorem cellsB7 : Tryd.prog.cellsOf 149 = 7 := by kernel_rfl
theorem cellsD3 : Tryd.prog.cellsOf 150 = 3 := by kernel_rfl
theorem cells256 : Tryd.prog.cellsOf 138 = 256 := by kernel_rfl
theorem cellsAR : Tryd.prog.cellsOf 140 = 2 := by kernel_rfl
theorem cellsP : Tryd.prog.cellsOf 41 = 3 := by kernel_rfl
theorem cellsVl : Tryd.prog.cellsOf 49 = 4 := by kernel_rfl
theorem cellsE : Tryd.prog.cellsOf 51 = 9 := by kernel_rfl
theorem cellsBo : Tryd.prog.cellsOf 4 = 1 := by kernel_rfl
theorem cellsSt : Tryd.prog.cellsOf 9 = 1 := by kernel_rfl
theorem cellsSP : Tryd.prog.cellsOf 46 = 1 := by kernel_rfl
theorem cellsSB : Tryd.prog.cellsOf 47 = 1 := by kernel_rfl
theorem cellsSI : Tryd.prog.cellsOf 42 = 1 := by kernel_rfl

/-- The six listed variables. -/
def laidV : List (String × DataW Unit) := Rows.voiceRestsRow.laid
theorem half_data : (Rows.laid_partita_pitch_halves : DataW Unit) = Lib.tabData .i64 [0, 2, 4, 5, 7, 9, 11] := by kernel_rfl
theorem base_data : (Rows.laid_partita_value_bases : DataW Unit) = Lib.tabData .i64 [64, 32, 16, 8, 4, 2, 1] := by kernel_rfl
theorem dot_data : (Rows.laid_partita_value_dotted : DataW Unit) = Lib.tabData .i64 [4, 6, 7] := by kernel_rfl
theorem first_data : (Rows.laid_unicode_utf8_first : DataW Unit) = Lib.tabData .u8 Lib.firstTab := by kernel_rfl
theorem accept_data : (Rows.laid_unicode_utf8_acceptRanges : DataW Unit) = Lib.acceptData := by kernel_rfl

def kindRows : List (List Int) := [[0, 0, 0, 0], [0, 0, 3, 2], [0, 0, 5, 4], [0, 0, 7, 4]]
theorem kind_data : (Rows.laid_partita_value_kinds : DataW Unit) = .agg (kindRows.map fun r => .agg (r.map fun z => .lit (.int .i64 z))) := by kernel_rfl
theorem kind_cells {W : World} (h : Lib.VarReads Tryd.prog W "partita/value.kinds" Rows.laid_partita_value_kinds) : ∀ j : Nat, j < 16 → W.cell? ⟨0, j, none⟩ = some (.int .i64 ([0, 0, 0, 0, 0, 0, 3, 2, 0, 0, 5, 4, 0, 0, 7, 4].getD j 0)) := by
  rw [kind_data] at h
  obtain ⟨g, t, cs, fuel, p, hg, hty, hvar, hd⟩ := h
  obtain rfl := Option.some.inj (gKI.symm.trans hg)
  obtain rfl := Option.some.inj (gKIType.symm.trans hty)
  have key : ∀ i : Nat, i < 4 → ∀ r, kindRows[i]? = some r → ∀ j : Nat, j < 4 → cs.toList[i * 4 + j]? = (r.map fun z => Value.int .i64 z)[j]? := by
    intro i hi r hr j hj
    obtain ⟨fuel', d, q, hdi, he⟩ := Lib.array_elem Tryd.underlying117 hd i hi
    rw [List.getElem?_map, hr] at hdi
    simp only [Option.map_some, Option.some.injEq] at hdi
    subst hdi
    rw [cellsVl] at he
    have hcs := Lib.ints_of_struct Tryd.underlying49 (fun j f hj => by
      match j, hj with
      | 0, hj => simp at hj; subst hj; exact ⟨Tryd.underlying3, rfl, cellsI⟩
      | 1, hj => simp at hj; subst hj; exact ⟨Tryd.underlying3, rfl, cellsI⟩
      | 2, hj => simp at hj; subst hj; exact ⟨Tryd.underlying3, rfl, cellsI⟩
      | 3, hj => simp at hj; subst hj; exact ⟨Tryd.underlying3, rfl, cellsI⟩
      | j + 4, hj => simp at hj) (by rw [cellsVl]; rfl) he
    have e := congrArg (·[j]?) hcs
    simp only [List.getElem?_take, List.getElem?_drop, if_pos hj] at e
    exact e
  intro j hj
  rw [World.var?_cell hg hvar j, ← Array.getElem?_toList]
  have hk := fun i (hi : i < 4) r hr => key i hi r hr
  match j, hj with
  | 0, _ => exact hk 0 (by decide) _ rfl 0 (by decide)
  | 1, _ => exact hk 0 (by decide) _ rfl 1 (by decide)
  | 2, _ => exact hk 0 (by decide) _ rfl 2 (by decide)
  | 3, _ => exact hk 0 (by decide) _ rfl 3 (by decide)
  | 4, _ => exact hk 1 (by decide) _ rfl 0 (by decide)
  | 5, _ => exact hk 1 (by decide) _ rfl 1 (by decide)
  | 6, _ => exact hk 1 (by decide) _ rfl 2 (by decide)
  | 7, _ => exact hk 1 (by decide) _ rfl 3 (by decide)
  | 8, _ => exact hk 2 (by decide) _ rfl 0 (by decide)
  | 9, _ => exact hk 2 (by decide) _ rfl 1 (by decide)
  | 10, _ => exact hk 2 (by decide) _ rfl 2 (by decide)
  | 11, _ => exact hk 2 (by decide) _ rfl 3 (by decide)
  | 12, _ => exact hk 3 (by decide) _ rfl 0 (by decide)
  | 13, _ => exact hk 3 (by decide) _ rfl 1 (by decide)
  | 14, _ => exact hk 3 (by decide) _ rfl 2 (by decide)
  | 15, _ => exact hk 3 (by decide) _ rfl 3 (by decide)
  | j + 16, hj => exact absurd hj (by omega)

set_option maxRecDepth 100000 in
/-- WHAT THE CONDITION GIVES THE WALKS. -/
theorem vars_of {W : World} (h : laidMetH Tryd.prog laidV W) : Spl.Vars W := by
  rw [MakeChecks.laidMetH_plain _ _ _ (by kernel_rfl)] at h
  have h1 : laidMet Tryd.prog [("unicode/utf8.acceptRanges", Rows.laid_unicode_utf8_acceptRanges), ("partita/pitch.halves", Rows.laid_partita_pitch_halves), ("partita/value.bases", Rows.laid_partita_value_bases), ("partita/value.dotted", Rows.laid_partita_value_dotted), ("partita/value.kinds", Rows.laid_partita_value_kinds), ("unicode/utf8.first", Rows.laid_unicode_utf8_first)] W := h
  have h2 := h1.tail
  have h3 := h2.tail
  have h4 := h3.tail
  have h4k := h4.tail
  have hk := kind_cells (Lib.laidMet.reads h4k (List.mem_cons_self ..))
  have h5 := h4k.tail
  have hac := Lib.laidMet.reads h1 (List.mem_cons_self ..)
  rw [half_data] at h2
  rw [base_data] at h3
  rw [dot_data] at h4
  rw [first_data] at h5
  rw [accept_data] at hac
  have t2 := Lib.tabIs_of_head gHV gHVType Tryd.underlying149 Tryd.underlying3 cellsI cellsB7 h2
  have t3 := Lib.tabIs_of_head gBA gBAType Tryd.underlying149 Tryd.underlying3 cellsI cellsB7 h3
  have t4 := Lib.tabIs_of_head gDO gDOType Tryd.underlying150 Tryd.underlying3 cellsI cellsD3 h4
  have t5 := Lib.tabIs_of_head gFI gFIType Tryd.underlying138 Tryd.underlying5 cellsU8 cells256 h5
  have hlib : Ready W := by
    refine ⟨?_, ?_, ?_, ?_, ?_⟩
    · intro j hj
      rw [t2.cell gHV j (by simpa using hj)]
      match j, hj with
      | 0, _ => rfl
      | 1, _ => rfl
      | 2, _ => rfl
      | 3, _ => rfl
      | 4, _ => rfl
      | 5, _ => rfl
      | 6, _ => rfl
    · intro j hj
      rw [t3.cell gBA j (by simpa using hj)]
      match j, hj with
      | 0, _ => rfl
      | 1, _ => rfl
      | 2, _ => rfl
      | 3, _ => rfl
      | 4, _ => rfl
      | 5, _ => rfl
      | 6, _ => rfl
    · intro j hj
      rw [t4.cell gDO j (by simpa using hj)]
      match j, hj with
      | 0, _ => rfl
      | 1, _ => rfl
      | 2, _ => rfl
    · intro c hc
      rw [t5.cell gFI c (by simpa [Lib.firstTab] using hc)]
      simp [Lib.firstTab, List.getD_eq_getElem?_getD, hc]
    · intro i hi
      obtain ⟨g, t, cs, fuel, p, hg, hty, hvar, hd⟩ := hac
      obtain rfl := Option.some.inj (gAC.symm.trans hg)
      obtain rfl := Option.some.inj (gACType.symm.trans hty)
      obtain ⟨fuel', d, q, hdi, he⟩ := Lib.array_elem Tryd.underlying141 hd i hi
      simp only [List.getElem?_map, List.getElem?_range hi, Option.map_some, Option.some.injEq] at hdi
      subst hdi
      rw [cellsAR] at he
      have hcs := Lib.ints_of_struct Tryd.underlying140 (fun j f hj => by
        match j, hj with
        | 0, hj => simp at hj; subst hj; exact ⟨Tryd.underlying5, rfl, cellsU8⟩
        | 1, hj => simp at hj; subst hj; exact ⟨Tryd.underlying5, rfl, cellsU8⟩
        | j + 2, hj => simp at hj) (by rw [cellsAR]; rfl) he
      have e0 := congrArg (·[0]?) hcs
      have e1 := congrArg (·[1]?) hcs
      simp only [List.getElem?_take, List.getElem?_drop] at e0 e1
      constructor
      · rw [World.var?_cell hg hvar (2 * i), ← Array.getElem?_toList]
        simpa [Nat.mul_comm] using e0
      · rw [World.var?_cell hg hvar (2 * i + 1), ← Array.getElem?_toList]
        simpa [Nat.mul_comm] using e1
  exact ⟨hlib, hlib.base, hlib.dot, hk⟩

set_option maxRecDepth 100000 in
theorem lay_met (os : Os) (args : Array Value) : laidMetH Tryd.prog laidV ((World.laidAll Tryd.prog os laidV).forCall (fun _ _ => 0) ⟨#[], args, []⟩).memory := by
  rw [MakeChecks.laidMetH_plain _ _ _ (by kernel_rfl)]
  exact laidMet_laidAll _ (by kernel_rfl) (by kernel_rfl)

/-- A law's contract: in whatever world in which the listed variables hold what they do, called with these arguments, it answers true, and of what was there nothing has turned. -/
def LawHolds (f : FuncId) (args : Array Value) (W : World) : Prop := Calls Tryd.prog f args W fun e W' => e = .returned (.bool true) ∧ Below W.heap.size W W'

section
variable {H : Type} {enc : TypeId × Value → H}
set_option maxRecDepth 100000 in
/-- THE LIFTING: listed variables and the sizes both handed to the contract. -/
theorem lifted_of {os : Os} {f : FuncId} {fn : Func} {s : ChangeSpec} {apart fresh handsOn again : Bool} (started : os.Started) (noInit : Tryd.prog.inits.idxOf? f = none) (hfn : Tryd.prog.funcs[f]? = some fn)
    (witness : ∃ (w : World) (tape : Tape) (i : Input), w.os = os ∧ (w.forCall tape i).Shaped Tryd.prog ∧ i.vars = [] ∧ Input.okWide Tryd.prog (w.forCall tape i) .any w.heap.size f i ∧
      ((s.pre enc Tryd.prog fn [] apart (w.forCall tape i).memory i.args ∧ laidMetH Tryd.prog laidV (w.forCall tape i).memory) ∧ sizedMet enc Tryd.prog fn (OpenSpec.ofChange s) apart (w.forCall tape i).memory i.args) ∧ ({} : Assume).holds Tryd.prog (lone (Frame.enter Tryd.prog f i.args .normal) [] (w.forCall tape i)))
    (contract : ∀ (W : World) (base : Nat) (args : Array Value) (ds gs : List (DataW H)) (before : List MemPlace),
      (∀ (j : Nat) t v, fn.params[j]? = some t → args[j]? = some v → Value.okWide Tryd.prog W .any base t v) →
      DataW.Whole enc Tryd.prog fn.params.toList s.vars apart W args.toList ds gs before → Spl.Vars W →
      (DataW.weightsEach Tryd.prog (fn.params.toList ++ s.plain.varTypes Tryd.prog) (ds ++ gs)).all (· ≤ reachBytes) = true →
      Calls Tryd.prog f args W fun e W' => ∃ v, e = .returned v ∧ s.post enc Tryd.prog fn apart fresh handsOn again W args v W') :
    ReturnsInHanded {} Tryd.checked os f .any (fun w args => (s.pre enc Tryd.prog fn [] apart w args ∧ laidMetH Tryd.prog laidV w) ∧ sizedMet enc Tryd.prog fn (OpenSpec.ofChange s) apart w args) (s.post enc Tryd.prog fn apart fresh handsOn again) := by
  refine returnsInHanded_of_calls (C := Tryd.checked) own started noInit witness ?_
  intro w tape i _ hsh _ hok hpre _
  obtain ⟨_, _, _, fn', hfn', _, _, _, _, hval⟩ := hok
  have e : fn' = fn := Option.some.inj (hfn'.symm.trans hfn)
  subst e
  obtain ⟨⟨⟨ds, gs, before, hw, hc⟩, hx⟩, hz⟩ := hpre
  have hw' := DataW.Whole.of_heap (w' := w.forCall tape i) (by rfl) hw
  have hx' : laidMetH Tryd.prog laidV (w.forCall tape i) := laidMetH.of_heap (by rfl) hx
  refine (contract (w.forCall tape i) w.heap.size i.args ds gs before hval hw' (vars_of hx') (hz.weights hw)).mono fun e W' ⟨v, he, hp⟩ => ?_
  subst he
  exact ChangeSpec.post_blind hp
end
theorem i64_of_wf {a : Int} (h : (Lit.int .i64 a).wf = true) : Rat.I64 a := by
  have e1 : IntKind.i64.min = -9223372036854775808 := rfl
  have e2 : IntKind.i64.max = 9223372036854775807 := rfl
  simp [Lit.wf, e1, e2] at h
  exact h
theorem u8_of_wf {a : Int} (h : (Lit.int .u8 a).wf = true) : 0 ≤ a ∧ a ≤ 255 := by
  have e1 : IntKind.u8.min = 0 := rfl
  have e2 : IntKind.u8.max = 255 := rfl
  simp [Lit.wf, e1, e2] at h
  exact h
theorem weightsAll_mem {H : Type} {P : Program} {e : TypeId} : ∀ {l : List (DataW H)} {d : DataW H} {n : Nat}, d ∈ l → n ∈ d.weights P e → n ∈ DataW.weightsAll P e l
  | x :: l, d, n, hd, hn => by
    simp only [DataW.weightsAll, List.mem_append]
    rcases List.mem_cons.1 hd with rfl | hd
    · exact Or.inl hn
    · exact Or.inr (weightsAll_mem hd hn)

/-- A list in memory, out of what is read of a slice. -/
theorem sl_open {α : Type} {k : Nat} {en : α → List Value} {G : α → Prop} {H : Type} {enc : TypeId × Value → H} {P : Program} {w : World} {e t : TypeId} {held : Bool} {fuel : Nat} {cs : List Value} {y : DataW H × List MemPlace}
    (ht : P.underlying t = some (.slice e)) (hk : P.cellsOf e = k) (h0 : 0 < k) (hb : 0 < P.bytesOf e)
    (hop : ∀ (m : Nat) (cs : List Value) (y : DataW H × List MemPlace), DataW.trod enc P w 0 (fun _ => true) held m e cs = some y → (∀ n ∈ y.1.weights P e, n ≤ reachBytes) → cs.length = k → ∃ x, cs = en x ∧ G x)
    (h : DataW.trod enc P w 0 (fun _ => true) held fuel t cs = some y) (hsz : ∀ n ∈ y.1.weights P t, n ≤ reachBytes) :
    ∃ v l, cs = [v] ∧ Sl k en w v l ∧ ∀ x ∈ l, G x := by
  rcases DataW.trod_slice ht h with ⟨rfl, _⟩ | ⟨a, len, cap, elems, rest, n, _, rfl, rfl, _, hl, _, hlen', hel, _, _⟩
  · exact ⟨_, [], rfl, Sl.none _ _ _, by simp⟩
  · have hw : ∀ m ∈ ((elems.length + rest.length) * P.bytesOf e :: (DataW.weightsAll P e (elems.map (·.1)) ++ DataW.weightsAll P e (rest.map (·.1)))), m ≤ reachBytes := by
      intro m hm
      refine hsz m ?_
      simp only [DataW.weights, ht]
      simpa using hm
    have hn : elems.length ≤ 140737488355328 := by
      have h1 := hw _ (List.mem_cons_self ..)
      have h2 := reachBytes_lt
      have h3 : elems.length + rest.length ≤ (elems.length + rest.length) * P.bytesOf e := Nat.le_mul_of_pos_right _ hb
      omega
    have hel2 : ∀ i : Fin len, ∃ x, w.cells? 0 (a.add (i.val * P.cellsOf e)) (P.cellsOf e) = some (en x) ∧ G x := by
      intro i
      have h1 := hel i.val i.isLt
      obtain ⟨b, hb'⟩ : ∃ b, elems[i.val]? = some b := ⟨elems[i.val]'(by have := i.isLt; omega), List.getElem?_eq_getElem _⟩
      rw [hb'] at h1
      obtain ⟨ce, hce, hte⟩ := Option.bind_eq_some_iff.1 h1
      obtain ⟨_, hcl, _⟩ := World.cells?_some hce
      obtain ⟨x, hx, hg⟩ := hop n ce b hte (fun m hm => hw m (List.mem_cons_of_mem _ (List.mem_append_left _ (weightsAll_mem (List.mem_map_of_mem (f := (·.1)) (List.mem_of_getElem? hb')) hm)))) (hcl.trans hk)
      exact ⟨x, by rw [hce, hx], hg⟩
    refine ⟨_, List.ofFn fun i => (hel2 i).choose, rfl, ⟨some a, cap, by rw [List.length_ofFn], by rw [List.length_ofFn]; omega, by rw [List.length_ofFn]; exact hl, ?_⟩, ?_⟩
    · intro i x hi
      obtain ⟨hlt, hix⟩ := List.getElem?_eq_some_iff.1 hi
      have hlt' : i < len := by simpa using hlt
      rw [List.getElem_ofFn] at hix
      have hs := (hel2 ⟨i, hlt'⟩).choose_spec.1
      rw [hix] at hs
      obtain ⟨_, hel3, hcc⟩ := World.cells?_some hs
      rw [hk] at hcc hel3
      obtain ⟨b, o, sp⟩ := a
      have hsp : sp = none := by
        obtain ⟨x0, hx0, _⟩ := hel2 ⟨0, by omega⟩
        obtain ⟨_, l1, c1⟩ := World.cells?_some hx0
        rw [hk] at c1 l1
        have h1 := c1 0 h0
        rw [List.getElem?_eq_getElem (by omega)] at h1
        simpa [Addr.add] using World.cell?_spot h1
      subst hsp
      refine ⟨b, o, rfl, fun j u hu => ?_⟩
      have hj : j < k := by rw [← hel3]; exact (List.getElem?_eq_some_iff.1 hu).1
      have h1 := hcc j hj
      rw [Addr.add_lit, Addr.add_lit, hu] at h1
      exact h1
    · intro x hx
      obtain ⟨i, rfl⟩ := List.mem_ofFn.1 hx
      exact (hel2 i).choose_spec.2

section
variable {H : Type} {enc : TypeId × Value → H} {w : World} {held : Bool}
theorem ints_open {fuel : Nat} {cs : List Value} {y : DataW H × List MemPlace} (h : DataW.trod enc Tryd.prog w 0 (fun _ => true) held fuel 42 cs = some y) (hsz : ∀ n ∈ y.1.weights Tryd.prog 42, n ≤ reachBytes) :
    ∃ v l, cs = [v] ∧ Ints w v l := by
  obtain ⟨v, l, e, hs, _⟩ := sl_open (G := fun _ => True) (en := encI) Tryd.underlying42 cellsI (by decide) (of_decide_eq_true (by kernel_rfl)) (fun m cs y hy _ _ => by
    obtain ⟨z, rfl, _, _⟩ := DataW.trod_int Tryd.underlying3 hy
    exact ⟨z, rfl, trivial⟩) h hsz
  exact ⟨v, l, e, hs⟩
end
end Go.Proofs.YtobhmiknlbjmkaaDoor
