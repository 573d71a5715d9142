/-
  From a row's listed variables to what the walks ask of the world; the lifting of a law's walk to its row; events, lists of events, intervals, values, pitches among the arguments, opened.
-/
import Derived.Test.YtnfnonlbokddfaaDoorEvJ
import Derived.ProofKit
import Derived.LaidMore
import Derived.OpenShut
import Derived.Stop.Joined
import Derived.Stop.LaidErr
import Derived.Lib.LaidTab
import Derived.Lib.LaidU8
import Derived.HandedShaped
import Derived.SizedLaws
import Derived.Carry
import Derived.Lib.SmallJoins
import Derived.Lay
namespace Go.Proofs.YtnfnonlbokddfaaDoor
open Go.ChangeShapes Go.WideShapes Go.ChangeAt Go.RowKit
open Evt (P3 Ev)

theorem own : ownKnob Tryd.prog.godebug = none := by kernel_rfl
theorem rowLaid : laidOutB Tryd.prog = true := by kernel_rfl
theorem gHV : Tryd.prog.globalNamed "partita/pitch.halves" = some 5 := by kernel_rfl
theorem gBA : Tryd.prog.globalNamed "partita/value.bases" = some 1 := by kernel_rfl
theorem gDO : Tryd.prog.globalNamed "partita/value.dotted" = some 2 := by kernel_rfl
theorem gFI : Tryd.prog.globalNamed "unicode/utf8.first" = some 3 := by kernel_rfl
theorem gAC : Tryd.prog.globalNamed "unicode/utf8.acceptRanges" = some 4 := by kernel_rfl
theorem gHVType : (Tryd.prog.globals[5]?).map (·.type) = some 164 := by kernel_rfl
theorem gBAType : (Tryd.prog.globals[1]?).map (·.type) = some 164 := by kernel_rfl
theorem gDOType : (Tryd.prog.globals[2]?).map (·.type) = some 165 := by kernel_rfl
theorem gFIType : (Tryd.prog.globals[3]?).map (·.type) = some 180 := by kernel_rfl
theorem gACType : (Tryd.prog.globals[4]?).map (·.type) = some 183 := by kernel_rfl
theorem cellsI : Tryd.prog.cellsOf 3 = 1 := by kernel_rfl
theorem cellsU8 : Tryd.prog.cellsOf 5 = 1 := by kernel_rfl
theorem cellsB7 : Tryd.prog.cellsOf 164 = 7 := by kernel_rfl
theorem cellsD3 : Tryd.prog.cellsOf 165 = 3 := by kernel_rfl
theorem cells256 : Tryd.prog.cellsOf 180 = 256 := by kernel_rfl
theorem cellsAR : Tryd.prog.cellsOf 182 = 2 := by kernel_rfl
theorem cellsP : Tryd.prog.cellsOf 57 = 3 := by kernel_rfl
theorem cellsIv : Tryd.prog.cellsOf 30 = 2 := by kernel_rfl
theorem cellsVl : Tryd.prog.cellsOf 25 = 4 := by kernel_rfl
theorem cellsE : Tryd.prog.cellsOf 28 = 9 := by kernel_rfl
theorem cellsBo : Tryd.prog.cellsOf 4 = 1 := by kernel_rfl
theorem cellsSt : Tryd.prog.cellsOf 9 = 1 := by kernel_rfl
theorem cellsSP : Tryd.prog.cellsOf 22 = 1 := by kernel_rfl
theorem cellsSB : Tryd.prog.cellsOf 23 = 1 := by kernel_rfl
theorem cellsSI : Tryd.prog.cellsOf 26 = 1 := by kernel_rfl

/-- The five listed variables. -/
def laidV : List (String × DataW Unit) := Rows.eventUpsRow.laid
theorem half_data : (Rows.laid_partita_pitch_halves : DataW Unit) = Lib.tabData .i64 [0, 2, 4, 5, 7, 9, 11] := by kernel_rfl
theorem base_data : (Rows.laid_partita_value_bases : DataW Unit) = Lib.tabData .i64 [64, 32, 16, 8, 4, 2, 1] := by kernel_rfl
theorem dot_data : (Rows.laid_partita_value_dotted : DataW Unit) = Lib.tabData .i64 [4, 6, 7] := by kernel_rfl
theorem first_data : (Rows.laid_unicode_utf8_first : DataW Unit) = Lib.tabData .u8 Lib.firstTab := by kernel_rfl
theorem accept_data : (Rows.laid_unicode_utf8_acceptRanges : DataW Unit) = Lib.acceptData := by kernel_rfl

set_option maxRecDepth 100000 in
/-- WHAT THE CONDITION GIVES THE WALKS. -/
theorem vars_of {W : World} (h : laidMetH Tryd.prog laidV W) : Ready W := by
  rw [MakeChecks.laidMetH_plain _ _ _ (by kernel_rfl)] at h
  have h1 : laidMet Tryd.prog [("unicode/utf8.acceptRanges", Rows.laid_unicode_utf8_acceptRanges), ("partita/pitch.halves", Rows.laid_partita_pitch_halves), ("partita/value.bases", Rows.laid_partita_value_bases), ("partita/value.dotted", Rows.laid_partita_value_dotted), ("unicode/utf8.first", Rows.laid_unicode_utf8_first)] W := h
  have h2 := h1.tail
  have h3 := h2.tail
  have h4 := h3.tail
  have h5 := h4.tail
  have hac := Lib.laidMet.reads h1 (List.mem_cons_self ..)
  rw [half_data] at h2
  rw [base_data] at h3
  rw [dot_data] at h4
  rw [first_data] at h5
  rw [accept_data] at hac
  have t2 := Lib.tabIs_of_head gHV gHVType Tryd.underlying164 Tryd.underlying3 cellsI cellsB7 h2
  have t3 := Lib.tabIs_of_head gBA gBAType Tryd.underlying164 Tryd.underlying3 cellsI cellsB7 h3
  have t4 := Lib.tabIs_of_head gDO gDOType Tryd.underlying165 Tryd.underlying3 cellsI cellsD3 h4
  have t5 := Lib.tabIs_of_head gFI gFIType Tryd.underlying180 Tryd.underlying5 cellsU8 cells256 h5
  refine ⟨?_, ?_, ?_, ?_, ?_⟩
  · intro j hj
    rw [t2.cell gHV j (by simpa using hj)]
    match j, hj with
    | 0, _ => rfl
    | 1, _ => rfl
    | 2, _ => rfl
    | 3, _ => rfl
    | 4, _ => rfl
    | 5, _ => rfl
    | 6, _ => rfl
  · intro j hj
    rw [t3.cell gBA j (by simpa using hj)]
    match j, hj with
    | 0, _ => rfl
    | 1, _ => rfl
    | 2, _ => rfl
    | 3, _ => rfl
    | 4, _ => rfl
    | 5, _ => rfl
    | 6, _ => rfl
  · intro j hj
    rw [t4.cell gDO j (by simpa using hj)]
    match j, hj with
    | 0, _ => rfl
    | 1, _ => rfl
    | 2, _ => rfl
  · intro c hc
    rw [t5.cell gFI c (by simpa [Lib.firstTab] using hc)]
    simp [Lib.firstTab, List.getD_eq_getElem?_getD, hc]
  · intro i hi
    obtain ⟨g, t, cs, fuel, p, hg, hty, hvar, hd⟩ := hac
    obtain rfl := Option.some.inj (gAC.symm.trans hg)
    obtain rfl := Option.some.inj (gACType.symm.trans hty)
    obtain ⟨fuel', d, q, hdi, he⟩ := Lib.array_elem Tryd.underlying183 hd i hi
    simp only [List.getElem?_map, List.getElem?_range hi, Option.map_some, Option.some.injEq] at hdi
    subst hdi
    rw [cellsAR] at he
    have hcs := Lib.ints_of_struct Tryd.underlying182 (fun j f hj => by
      match j, hj with
      | 0, hj => simp at hj; subst hj; exact ⟨Tryd.underlying5, rfl, cellsU8⟩
      | 1, hj => simp at hj; subst hj; exact ⟨Tryd.underlying5, rfl, cellsU8⟩
      | j + 2, hj => simp at hj) (by rw [cellsAR]; rfl) he
    have e0 := congrArg (·[0]?) hcs
    have e1 := congrArg (·[1]?) hcs
    simp only [List.getElem?_take, List.getElem?_drop] at e0 e1
    constructor
    · rw [World.var?_cell hg hvar (2 * i), ← Array.getElem?_toList]
      simpa [Nat.mul_comm] using e0
    · rw [World.var?_cell hg hvar (2 * i + 1), ← Array.getElem?_toList]
      simpa [Nat.mul_comm] using e1

set_option maxRecDepth 100000 in
theorem lay_met (os : Os) (args : Array Value) : laidMetH Tryd.prog laidV ((World.laidAll Tryd.prog os laidV).forCall (fun _ _ => 0) ⟨#[], args, []⟩).memory := by
  rw [MakeChecks.laidMetH_plain _ _ _ (by kernel_rfl)]
  exact laidMet_laidAll _ (by kernel_rfl) (by kernel_rfl)

/-- A law's contract: in whatever world in which the listed variables hold what they do, called with these arguments, it answers true, and of what was there nothing has turned. -/
def LawHolds (f : FuncId) (args : Array Value) (W : World) : Prop := Calls Tryd.prog f args W fun e W' => e = .returned (.bool true) ∧ Below W.heap.size W W'

section
variable {H : Type} {enc : TypeId × Value → H}
set_option maxRecDepth 100000 in
/-- THE LIFTING: listed variables and the sizes both handed to the contract. -/
theorem lifted_of {os : Os} {f : FuncId} {fn : Func} {s : ChangeSpec} {apart fresh handsOn again : Bool} (started : os.Started) (noInit : Tryd.prog.inits.idxOf? f = none) (hfn : Tryd.prog.funcs[f]? = some fn)
    (witness : ∃ (w : World) (tape : Tape) (i : Input), w.os = os ∧ (w.forCall tape i).Shaped Tryd.prog ∧ i.vars = [] ∧ Input.okWide Tryd.prog (w.forCall tape i) .any w.heap.size f i ∧
      ((s.pre enc Tryd.prog fn [] apart (w.forCall tape i).memory i.args ∧ laidMetH Tryd.prog laidV (w.forCall tape i).memory) ∧ sizedMet enc Tryd.prog fn (OpenSpec.ofChange s) apart (w.forCall tape i).memory i.args) ∧ ({} : Assume).holds Tryd.prog (lone (Frame.enter Tryd.prog f i.args .normal) [] (w.forCall tape i)))
    (contract : ∀ (W : World) (base : Nat) (args : Array Value) (ds gs : List (DataW H)) (before : List MemPlace),
      (∀ (j : Nat) t v, fn.params[j]? = some t → args[j]? = some v → Value.okWide Tryd.prog W .any base t v) →
      DataW.Whole enc Tryd.prog fn.params.toList s.vars apart W args.toList ds gs before → Ready W →
      (DataW.weightsEach Tryd.prog (fn.params.toList ++ s.plain.varTypes Tryd.prog) (ds ++ gs)).all (· ≤ reachBytes) = true →
      Calls Tryd.prog f args W fun e W' => ∃ v, e = .returned v ∧ s.post enc Tryd.prog fn apart fresh handsOn again W args v W') :
    ReturnsInHanded {} Tryd.checked os f .any (fun w args => (s.pre enc Tryd.prog fn [] apart w args ∧ laidMetH Tryd.prog laidV w) ∧ sizedMet enc Tryd.prog fn (OpenSpec.ofChange s) apart w args) (s.post enc Tryd.prog fn apart fresh handsOn again) := by
  refine returnsInHanded_of_calls (C := Tryd.checked) own started noInit witness ?_
  intro w tape i _ hsh _ hok hpre _
  obtain ⟨_, _, _, fn', hfn', _, _, _, _, hval⟩ := hok
  have e : fn' = fn := Option.some.inj (hfn'.symm.trans hfn)
  subst e
  obtain ⟨⟨⟨ds, gs, before, hw, hc⟩, hx⟩, hz⟩ := hpre
  have hw' := DataW.Whole.of_heap (w' := w.forCall tape i) (by rfl) hw
  have hx' : laidMetH Tryd.prog laidV (w.forCall tape i) := laidMetH.of_heap (by rfl) hx
  refine (contract (w.forCall tape i) w.heap.size i.args ds gs before hval hw' (vars_of hx') (hz.weights hw)).mono fun e W' ⟨v, he, hp⟩ => ?_
  subst he
  exact ChangeSpec.post_blind hp
end
theorem i64_of_wf {a : Int} (h : (Lit.int .i64 a).wf = true) : Rat.I64 a := by
  have e1 : IntKind.i64.min = -9223372036854775808 := rfl
  have e2 : IntKind.i64.max = 9223372036854775807 := rfl
  simp [Lit.wf, e1, e2] at h
  exact h
theorem u8_of_wf {a : Int} (h : (Lit.int .u8 a).wf = true) : 0 ≤ a ∧ a ≤ 255 := by
  have e1 : IntKind.u8.min = 0 := rfl
  have e2 : IntKind.u8.max = 255 := rfl
  simp [Lit.wf, e1, e2] at h
  exact h
theorem weightsAll_mem {H : Type} {P : Program} {e : TypeId} : ∀ {l : List (DataW H)} {d : DataW H} {n : Nat}, d ∈ l → n ∈ d.weights P e → n ∈ DataW.weightsAll P e l
  | x :: l, d, n, hd, hn => by
    simp only [DataW.weightsAll, List.mem_append]
    rcases List.mem_cons.1 hd with rfl | hd
    · exact Or.inl hn
    · exact Or.inr (weightsAll_mem hd hn)

/-- A list in memory, out of what is read of a slice. -/
theorem sl_open {α : Type} {k : Nat} {en : α → List Value} {G : α → Prop} {H : Type} {enc : TypeId × Value → H} {P : Program} {w : World} {e t : TypeId} {held : Bool} {fuel : Nat} {cs : List Value} {y : DataW H × List MemPlace}
    (ht : P.underlying t = some (.slice e)) (hk : P.cellsOf e = k) (h0 : 0 < k) (hb : 0 < P.bytesOf e)
    (hop : ∀ (m : Nat) (cs : List Value) (y : DataW H × List MemPlace), DataW.trod enc P w 0 (fun _ => true) held m e cs = some y → (∀ n ∈ y.1.weights P e, n ≤ reachBytes) → cs.length = k → ∃ x, cs = en x ∧ G x)
    (h : DataW.trod enc P w 0 (fun _ => true) held fuel t cs = some y) (hsz : ∀ n ∈ y.1.weights P t, n ≤ reachBytes) :
    ∃ v l, cs = [v] ∧ Sl k en w v l ∧ ∀ x ∈ l, G x := by
  rcases DataW.trod_slice ht h with ⟨rfl, _⟩ | ⟨a, len, cap, elems, rest, n, _, rfl, rfl, _, hl, _, hlen', hel, _, _⟩
  · exact ⟨_, [], rfl, Sl.none _ _ _, by simp⟩
  · have hw : ∀ m ∈ ((elems.length + rest.length) * P.bytesOf e :: (DataW.weightsAll P e (elems.map (·.1)) ++ DataW.weightsAll P e (rest.map (·.1)))), m ≤ reachBytes := by
      intro m hm
      refine hsz m ?_
      simp only [DataW.weights, ht]
      simpa using hm
    have hn : elems.length ≤ 140737488355328 := by
      have h1 := hw _ (List.mem_cons_self ..)
      have h2 := reachBytes_lt
      have h3 : elems.length + rest.length ≤ (elems.length + rest.length) * P.bytesOf e := Nat.le_mul_of_pos_right _ hb
      omega
    have hel2 : ∀ i : Fin len, ∃ x, w.cells? 0 (a.add (i.val * P.cellsOf e)) (P.cellsOf e) = some (en x) ∧ G x := by
      intro i
      have h1 := hel i.val i.isLt
      obtain ⟨b, hb'⟩ : ∃ b, elems[i.val]? = some b := ⟨elems[i.val]'(by have := i.isLt; omega), List.getElem?_eq_getElem _⟩
      rw [hb'] at h1
      obtain ⟨ce, hce, hte⟩ := Option.bind_eq_some_iff.1 h1
      obtain ⟨_, hcl, _⟩ := World.cells?_some hce
      obtain ⟨x, hx, hg⟩ := hop n ce b hte (fun m hm => hw m (List.mem_cons_of_mem _ (List.mem_append_left _ (weightsAll_mem (List.mem_map_of_mem (f := (·.1)) (List.mem_of_getElem? hb')) hm)))) (hcl.trans hk)
      exact ⟨x, by rw [hce, hx], hg⟩
    refine ⟨_, List.ofFn fun i => (hel2 i).choose, rfl, ⟨some a, cap, by rw [List.length_ofFn], by rw [List.length_ofFn]; omega, by rw [List.length_ofFn]; exact hl, ?_⟩, ?_⟩
    · intro i x hi
      obtain ⟨hlt, hix⟩ := List.getElem?_eq_some_iff.1 hi
      have hlt' : i < len := by simpa using hlt
      rw [List.getElem_ofFn] at hix
      have hs := (hel2 ⟨i, hlt'⟩).choose_spec.1
      rw [hix] at hs
      obtain ⟨_, hel3, hcc⟩ := World.cells?_some hs
      rw [hk] at hcc hel3
      obtain ⟨b, o, sp⟩ := a
      have hsp : sp = none := by
        obtain ⟨x0, hx0, _⟩ := hel2 ⟨0, by omega⟩
        obtain ⟨_, l1, c1⟩ := World.cells?_some hx0
        rw [hk] at c1 l1
        have h1 := c1 0 h0
        rw [List.getElem?_eq_getElem (by omega)] at h1
        simpa [Addr.add] using World.cell?_spot h1
      subst hsp
      refine ⟨b, o, rfl, fun j u hu => ?_⟩
      have hj : j < k := by rw [← hel3]; exact (List.getElem?_eq_some_iff.1 hu).1
      have h1 := hcc j hj
      rw [Addr.add_lit, Addr.add_lit, hu] at h1
      exact h1
    · intro x hx
      obtain ⟨i, rfl⟩ := List.mem_ofFn.1 hx
      exact (hel2 i).choose_spec.2

section
variable {H : Type} {enc : TypeId × Value → H} {w : World} {held : Bool}
theorem ints_open {fuel : Nat} {cs : List Value} {y : DataW H × List MemPlace} (h : DataW.trod enc Tryd.prog w 0 (fun _ => true) held fuel 26 cs = some y) (hsz : ∀ n ∈ y.1.weights Tryd.prog 26, n ≤ reachBytes) :
    ∃ v l, cs = [v] ∧ Ints w v l := by
  obtain ⟨v, l, e, hs, _⟩ := sl_open (G := fun _ => True) (en := encI) Tryd.underlying26 cellsI (by decide) (of_decide_eq_true (by kernel_rfl)) (fun m cs y hy _ _ => by
    obtain ⟨z, rfl, _, _⟩ := DataW.trod_int Tryd.underlying3 hy
    exact ⟨z, rfl, trivial⟩) h hsz
  exact ⟨v, l, e, hs⟩
theorem bools_open {fuel : Nat} {cs : List Value} {y : DataW H × List MemPlace} (h : DataW.trod enc Tryd.prog w 0 (fun _ => true) held fuel 23 cs = some y) (hsz : ∀ n ∈ y.1.weights Tryd.prog 23, n ≤ reachBytes) :
    ∃ v l, cs = [v] ∧ Bools w v l := by
  obtain ⟨v, l, e, hs, _⟩ := sl_open (G := fun _ => True) (en := encB) Tryd.underlying23 cellsBo (by decide) (of_decide_eq_true (by kernel_rfl)) (fun m cs y hy _ _ => by
    obtain ⟨z, rfl, _⟩ := DataW.trod_bool Tryd.underlying4 hy
    exact ⟨z, rfl, trivial⟩) h hsz
  exact ⟨v, l, e, hs⟩
set_option maxRecDepth 100000 in
theorem pit_open {fuel : Nat} {cs : List Value} {y : DataW H × List MemPlace} (h : DataW.trod enc Tryd.prog w 0 (fun _ => true) held fuel 57 cs = some y) (hl : cs.length = 3) : ∃ x : P3, cs = encP x := by
  obtain ⟨c0, c1, c2, rfl⟩ : ∃ c0 c1 c2, cs = [c0, c1, c2] := by
    match cs, hl with
    | [c0, c1, c2], _ => exact ⟨c0, c1, c2, rfl⟩
  obtain ⟨y0, y1, y2, n, _, _, h0, h1, h2⟩ := Deep.trod_struct3 Tryd.underlying57 h
  simp only [cellsI] at h0 h1 h2
  obtain ⟨k0, e0, _, _⟩ := DataW.trod_int Tryd.underlying3 h0
  obtain ⟨k1, e1, _, _⟩ := DataW.trod_int Tryd.underlying3 h1
  obtain ⟨k2, e2, _, _⟩ := DataW.trod_int Tryd.underlying3 h2
  simp at e0 e1 e2
  subst e0; subst e1; subst e2
  exact ⟨(k0, k1, k2), rfl⟩
theorem pits_open {fuel : Nat} {cs : List Value} {y : DataW H × List MemPlace} (h : DataW.trod enc Tryd.prog w 0 (fun _ => true) held fuel 22 cs = some y) (hsz : ∀ n ∈ y.1.weights Tryd.prog 22, n ≤ reachBytes) :
    ∃ v l, cs = [v] ∧ Pits w v l := by
  obtain ⟨v, l, e, hs, _⟩ := sl_open (G := fun _ => True) (en := encP) Tryd.underlying22 cellsP (by decide) (of_decide_eq_true (by kernel_rfl)) (fun m cs y hy _ hl => by
    obtain ⟨x, hx⟩ := pit_open hy hl
    exact ⟨x, hx, trivial⟩) h hsz
  exact ⟨v, l, e, hs⟩
set_option maxRecDepth 100000 in
theorem trod_struct6 {P : Program} {t : TypeId} {f0 f1 f2 f3 f4 f5 : Field} {fuel : Nat} {cs : List Value} {x : DataW H × List MemPlace} (ht : P.underlying t = some (.struct #[f0, f1, f2, f3, f4, f5])) (h : DataW.trod enc P w 0 (fun _ => true) held fuel t cs = some x) :
    ∃ (y0 y1 y2 y3 y4 y5 : DataW H × List MemPlace) (n : Nat), x.1 = .agg [y0.1, y1.1, y2.1, y3.1, y4.1, y5.1] ∧
      DataW.trod enc P w 0 (fun _ => true) held n f0.type ((cs.drop f0.offset).take (P.cellsOf f0.type)) = some y0 ∧ DataW.trod enc P w 0 (fun _ => true) held n f1.type ((cs.drop f1.offset).take (P.cellsOf f1.type)) = some y1 ∧
      DataW.trod enc P w 0 (fun _ => true) held n f2.type ((cs.drop f2.offset).take (P.cellsOf f2.type)) = some y2 ∧ DataW.trod enc P w 0 (fun _ => true) held n f3.type ((cs.drop f3.offset).take (P.cellsOf f3.type)) = some y3 ∧
      DataW.trod enc P w 0 (fun _ => true) held n f4.type ((cs.drop f4.offset).take (P.cellsOf f4.type)) = some y4 ∧ DataW.trod enc P w 0 (fun _ => true) held n f5.type ((cs.drop f5.offset).take (P.cellsOf f5.type)) = some y5 := by
  obtain ⟨xs, n, _, rfl, _, hl, hf⟩ := DataW.trod_struct ht h
  match xs, hl with
  | [y0, y1, y2, y3, y4, y5], _ => exact ⟨y0, y1, y2, y3, y4, y5, n, rfl, hf 0 f0 rfl, hf 1 f1 rfl, hf 2 f2 rfl, hf 3 f3 rfl, hf 4 f4 rfl, hf 5 f5 rfl⟩
set_option maxRecDepth 100000 in
theorem vl_open {fuel : Nat} {cs : List Value} {y : DataW H × List MemPlace} (h : DataW.trod enc Tryd.prog w 0 (fun _ => true) held fuel 25 cs = some y) (hl : cs.length = 4) : ∃ b d n e : Int, cs = [.int .i64 b, .int .i64 d, .int .i64 n, .int .i64 e] := by
  obtain ⟨c0, c1, c2, c3, rfl⟩ : ∃ c0 c1 c2 c3, cs = [c0, c1, c2, c3] := by
    match cs, hl with
    | [c0, c1, c2, c3], _ => exact ⟨c0, c1, c2, c3, rfl⟩
  obtain ⟨y0, y1, y2, y3, n, _, _, h0, h1, h2, h3⟩ := Joins.trod_struct4 Tryd.underlying25 h
  simp only [cellsI] at h0 h1 h2 h3
  obtain ⟨k0, e0, _, _⟩ := DataW.trod_int Tryd.underlying3 h0
  obtain ⟨k1, e1, _, _⟩ := DataW.trod_int Tryd.underlying3 h1
  obtain ⟨k2, e2, _, _⟩ := DataW.trod_int Tryd.underlying3 h2
  obtain ⟨k3, e3, _, _⟩ := DataW.trod_int Tryd.underlying3 h3
  simp at e0 e1 e2 e3
  subst e0; subst e1; subst e2; subst e3
  exact ⟨k0, k1, k2, k3, rfl⟩
theorem weights_struct {P : Program} {t : TypeId} {fs : Array Field} {d : DataW H} {ds : List (DataW H)} (ht : P.underlying t = some (.struct fs)) (hd : d = .agg ds) (h : ∀ n ∈ d.weights P t, n ≤ reachBytes) {j : Nat} {f : Field} {dj : DataW H} (hf : fs[j]? = some f) (hj : ds[j]? = some dj) : ∀ n ∈ dj.weights P f.type, n ≤ reachBytes := by
  intro n hn
  refine h n ?_
  subst hd
  simp only [DataW.weights, ht]
  exact DataW.weights_mem_each (by rw [List.getElem?_map, Array.getElem?_toList, hf]; rfl) hj n hn
set_option maxRecDepth 100000 in
theorem ev_open {fuel : Nat} {cs : List Value} {y : DataW H × List MemPlace} (h : DataW.trod enc Tryd.prog w 0 (fun _ => true) held fuel 28 cs = some y) (hsz : ∀ n ∈ y.1.weights Tryd.prog 28, n ≤ reachBytes) (hl : cs.length = 9) :
    ∃ z : EM, cs = encE z ∧ EvR w z.2.1 z.2.2.1 z.2.2.2 z.1 := by
  obtain ⟨c0, c1, c2, c3, c4, c5, c6, c7, c8, rfl⟩ : ∃ c0 c1 c2 c3 c4 c5 c6 c7 c8, cs = [c0, c1, c2, c3, c4, c5, c6, c7, c8] := by
    match cs, hl with
    | [c0, c1, c2, c3, c4, c5, c6, c7, c8], _ => exact ⟨c0, c1, c2, c3, c4, c5, c6, c7, c8, rfl⟩
  obtain ⟨y0, y1, y2, y3, y4, y5, n, hy, h0, h1, h2, h3, h4, h5⟩ := trod_struct6 Tryd.underlying28 h
  have hw := fun {j : Nat} {f : Field} {dj : DataW H} => weights_struct (j := j) (f := f) (dj := dj) Tryd.underlying28 hy hsz
  have w1 := hw (j := 1) rfl rfl
  have w2 := hw (j := 2) rfl rfl
  have w4 := hw (j := 4) rfl rfl
  have w5 := hw (j := 5) rfl rfl
  simp only [cellsI, cellsSP, cellsSB, cellsVl, cellsSI, cellsSt] at h0 h1 h2 h3 h4 h5
  obtain ⟨k0, e0, _, _⟩ := DataW.trod_int Tryd.underlying3 h0
  obtain ⟨v1, l1, e1, s1⟩ := pits_open h1 w1
  obtain ⟨v2, l2, e2, s2⟩ := bools_open h2 w2
  obtain ⟨b, d, n', e', e3⟩ := vl_open h3 rfl
  obtain ⟨v4, l4, e4, s4⟩ := ints_open h4 w4
  obtain ⟨str, e5, x5, _⟩ := DataW.trod_string Tryd.underlying9 h5
  simp at e0 e1 e2 e3 e4 e5
  obtain ⟨rfl, rfl, rfl, rfl⟩ := e3
  subst e0; subst e1; subst e2; subst e4; subst e5
  refine ⟨(⟨k0, l1, l2, b, d, n', e', l4, str⟩, c1, c2, c7), rfl, s1, s2, s4, ?_⟩
  have h6 := w5 str.data.toList.length (by rw [x5]; exact List.mem_singleton.2 rfl)
  have h7 := reachBytes_lt
  have h8 : str.data.toList.length = str.size := Array.length_toList
  show str.size ≤ _
  omega
theorem evs_open {fuel : Nat} {cs : List Value} {y : DataW H × List MemPlace} (h : DataW.trod enc Tryd.prog w 0 (fun _ => true) held fuel 38 cs = some y) (hsz : ∀ n ∈ y.1.weights Tryd.prog 38, n ≤ reachBytes) :
    ∃ v l, cs = [v] ∧ Evs w v l := by
  obtain ⟨v, l, e, hs, hg⟩ := sl_open (G := fun z : EM => EvR w z.2.1 z.2.2.1 z.2.2.2 z.1) (en := encE) Tryd.underlying38 cellsE (by decide) (of_decide_eq_true (by kernel_rfl)) (fun m cs y hy hw hl => ev_open hy hw hl) h hsz
  exact ⟨v, l, e, hs, hg⟩
set_option maxRecDepth 100000 in
theorem open_ev {b0 : Nat} {v : Value} {d : DataW H} {p : List MemPlace} (hv : Value.okWide Tryd.prog w .any b0 28 v) (h : DataW.Trod enc Tryd.prog w 0 (fun _ => true) held 28 v d p) (hsz : ∀ n ∈ d.weights Tryd.prog 28, n ≤ reachBytes) :
    ∃ (x : Ev) (vp vt vm : Value), v = evv x vp vt vm ∧ EvR w vp vt vm x := by
  obtain ⟨cs, rfl, hs⟩ := okWide_struct Tryd.underlying28 hv
  rw [cellsE] at hs
  obtain ⟨fuel, hf⟩ := h
  obtain ⟨z, hz, hr⟩ := ev_open hf hsz (by simpa [Value.cells] using hs)
  obtain ⟨x, vp, vt, vm⟩ := z
  refine ⟨x, vp, vt, vm, ?_, hr⟩
  have : cs.toList = encE (x, vp, vt, vm) := by simpa [Value.cells] using hz
  obtain ⟨l⟩ := cs
  simp only at this
  rw [this]
  rfl
set_option maxRecDepth 100000 in
theorem open_evs {b0 : Nat} {v : Value} {d : DataW H} {p : List MemPlace} (hv : Value.okWide Tryd.prog w .any b0 38 v) (h : DataW.Trod enc Tryd.prog w 0 (fun _ => true) held 38 v d p) (hsz : ∀ n ∈ d.weights Tryd.prog 38, n ≤ reachBytes) :
    ∃ l, Evs w v l := by
  obtain ⟨a0, len, cap, rfl⟩ := okWide_slice Tryd.underlying38 hv
  obtain ⟨fuel, hf⟩ := h
  obtain ⟨v', l, e, hs⟩ := evs_open hf hsz
  have e2 : [Value.slice a0 len cap] = [v'] := e
  simp only [List.cons.injEq, and_true] at e2
  subst e2
  exact ⟨l, hs⟩
set_option maxRecDepth 100000 in
theorem open_pt {b0 : Nat} {v : Value} {d : DataW H} {p : List MemPlace} (hv : Value.okWide Tryd.prog w .any b0 57 v) (h : DataW.Trod enc Tryd.prog w 0 (fun _ => true) held 57 v d p) :
    ∃ a b c : Int, v = pt a b c ∧ Rat.I64 a ∧ Rat.I64 b ∧ Rat.I64 c := by
  obtain ⟨v0, v1, v2, y0, y1, y2, n, rfl, rfl, rfl, h0, h1, h2⟩ := Joins.open_agg3 Tryd.underlying57 (by kernel_rfl) cellsP hv h
  obtain ⟨k0, e0, x0, w0⟩ := DataW.trod_int Tryd.underlying3 h0
  obtain ⟨k1, e1, x1, w1⟩ := DataW.trod_int Tryd.underlying3 h1
  obtain ⟨k2, e2, x2, w2⟩ := DataW.trod_int Tryd.underlying3 h2
  simp only [List.cons.injEq, and_true] at e0 e1 e2
  subst e0; subst e1; subst e2
  exact ⟨k0, k1, k2, rfl, i64_of_wf w0, i64_of_wf w1, i64_of_wf w2⟩
set_option maxRecDepth 100000 in
theorem open_iv {b0 : Nat} {v : Value} {d : DataW H} {p : List MemPlace} (hv : Value.okWide Tryd.prog w .any b0 30 v) (h : DataW.Trod enc Tryd.prog w 0 (fun _ => true) held 30 v d p) :
    ∃ a b : Int, v = iv a b ∧ Rat.I64 a ∧ Rat.I64 b := by
  obtain ⟨v0, v1, y0, y1, n, rfl, rfl, rfl, h0, h1⟩ := Joins.open_agg2 Tryd.underlying30 (by kernel_rfl) cellsIv hv h
  obtain ⟨k0, e0, x0, w0⟩ := DataW.trod_int Tryd.underlying3 h0
  obtain ⟨k1, e1, x1, w1⟩ := DataW.trod_int Tryd.underlying3 h1
  simp only [List.cons.injEq, and_true] at e0 e1
  subst e0; subst e1
  exact ⟨k0, k1, rfl, i64_of_wf w0, i64_of_wf w1⟩
set_option maxRecDepth 100000 in
theorem open_vl {b0 : Nat} {v : Value} {d : DataW H} {p : List MemPlace} (hv : Value.okWide Tryd.prog w .any b0 25 v) (h : DataW.Trod enc Tryd.prog w 0 (fun _ => true) held 25 v d p) :
    ∃ a b c e : Int, v = vl a b c e ∧ Rat.I64 a ∧ Rat.I64 b ∧ Rat.I64 c ∧ Rat.I64 e := by
  obtain ⟨v0, v1, v2, v3, y0, y1, y2, y3, n, rfl, rfl, rfl, h0, h1, h2, h3⟩ := Joins.open_agg4 Tryd.underlying25 (by kernel_rfl) cellsVl hv h
  obtain ⟨k0, e0, x0, w0⟩ := DataW.trod_int Tryd.underlying3 h0
  obtain ⟨k1, e1, x1, w1⟩ := DataW.trod_int Tryd.underlying3 h1
  obtain ⟨k2, e2, x2, w2⟩ := DataW.trod_int Tryd.underlying3 h2
  obtain ⟨k3, e3, x3, w3⟩ := DataW.trod_int Tryd.underlying3 h3
  simp only [List.cons.injEq, and_true] at e0 e1 e2 e3
  subst e0; subst e1; subst e2; subst e3
  exact ⟨k0, k1, k2, k3, rfl, i64_of_wf w0, i64_of_wf w1, i64_of_wf w2, i64_of_wf w3⟩
end
end Go.Proofs.YtnfnonlbokddfaaDoor
