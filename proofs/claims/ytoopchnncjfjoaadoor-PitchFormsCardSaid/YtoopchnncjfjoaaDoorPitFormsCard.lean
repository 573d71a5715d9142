/-
  PitchForms answers true for every text, pitch, number and byte, and they read afterwards as they did: the tied card; its condition: the seven listed variables (two of package pitch, five of the library) start as the program's text lays them.
-/
import Derived.Test.YtoopchnncjfjoaaDoorPitForms
import Derived.Test.YtoopchnncjfjoaaDoorPitRow
import Derived.Test.YtoopchnncjfjoaaDoorCards
import Derived.Test.YtoopchnncjfjoaaDoorTie
import Derived.SevenTiedAt
namespace Go.Proofs.YtoopchnncjfjoaaDoor
open Go.ChangeShapes Go.WideShapes Go.ChangeAt Go.RowKit

set_option maxRecDepth 100000 in
theorem pitchForms_lifted (os : Os) (started : os.Started) (H : Type) (enc : TypeId × Value → H) :
    ReturnsInHanded {} Tryd.checked os 5 .any (fun w args => (Rows.pitchFormsSpec.pre enc Tryd.prog Tryd.f5 [] false w args ∧ laidMetH Tryd.prog laid7 w) ∧ sizedMet enc Tryd.prog Tryd.f5 (OpenSpec.ofChange Rows.pitchFormsSpec) false w args)
      (Rows.pitchFormsSpec.post enc Tryd.prog Tryd.f5 false true false false) := by
  refine lifted_of started (by kernel_rfl) Tryd.func5
    (ChangeSpec.witness_shaped (enc := enc) (C := Tryd.checked) (os := os) (X := fun w _ => laidMetH Tryd.prog laid7 w) false (World.doorLaid Tryd.prog 400 os) #[.string ⟨#[]⟩, .agg #[.int .i64 0, .int .i64 0, .int .i64 0], .int .i64 0, .int .u8 0] 8 rfl (World.shaped_of_RefB (by kernel_rfl) (by kernel_rfl)) (by kernel_rfl) (by kernel_rfl) (by kernel_rfl) (door_met os _)) ?_
  intro W base args ds gs before hval0 hW hR _
  have hval : ∀ (j : Nat) t v, Tryd.f5.params[j]? = some t → args[j]? = some v → Value.okWide Tryd.prog W .any base t v := hval0
  have hW' := hW
  obtain ⟨p, q, hA0, hV, rfl, hfz, hnd⟩ := hW
  have hA : DataW.TrodAll enc Tryd.prog W 0 (fun _ => true) true Tryd.f5.params.toList args.toList ds p := hA0
  rw [Tryd.params5] at hA hval
  obtain ⟨v0, v1, v2, v3, d0, d1, d2, d3, p0, p1, p2, p3, rfl, rfl, rfl, h0, h1, h2, h3⟩ := trodAll_four hA
  obtain ⟨rfl, rfl⟩ := trodVars_none hV
  obtain ⟨a0, rfl, rfl, rfl, wa0⟩ := ChangeMaps.open_string Tryd.underlying9 (hval 0 9 v0 rfl rfl) h0
  obtain ⟨a1, b1, c1, rfl, rfl, rfl, ia1, ib1, ic1⟩ := open_pt (hval 1 23 v1 rfl rfl) h1
  obtain ⟨a2, rfl, rfl, rfl, wa2⟩ := open_int Tryd.underlying3 (hval 2 3 v2 rfl rfl) h2
  have ia2 := i64_of_wf wa2
  obtain ⟨a3, rfl, rfl, rfl, wa3⟩ := open_int Tryd.underlying5 (hval 3 5 v3 rfl rfl) h3
  have ia3 := u8_of_wf wa3
  clear hA0 hval0
  simp only [List.append_nil] at hW'
  refine (pitchForms_calls a0 a1 b1 c1 a2 a3 wa0 ia1 ib1 ic1 ia2 ia3 W hR).mono fun e W' ⟨he, hnx⟩ => ?_
  subst he
  refine ⟨_, rfl, _, _, _, [], [], [], hW', ?_, ?_, rfl, hnx.frame _, fun h => by cases h⟩
  · exact trodAll_mk1 (shut_bool Tryd.underlying4 _)
  · exact trodAll_mk4 (ChangeMaps.shut_string Tryd.underlying9 wa0) (shut_pt ia1 ib1 ic1) (shut_int Tryd.underlying3 wa2) (shut_int Tryd.underlying5 wa3)

theorem pitchForms_holds : Rows.PitchFormsSaid :=
  OpenClaim.holds_of_wide 5 Tryd.f5 rfl rfl rfl rfl rfl rfl rfl ⟨rfl, rfl, rfl, rfl, rfl⟩ rfl rfl rfl rfl rfl (by kernel_rfl) Tryd.func5 (by kernel_rfl)
    (of_decide_eq_true (by kernel_rfl)) (by unfold Func.isWrapper; first | (rw [if_pos (by decide +kernel)]; kernel_rfl) | (rw [if_neg (by decide +kernel)]; exact ⟨rfl, rfl⟩))
    (fun os started H enc _ => pitchForms_lifted os started H enc)

theorem pitchForms_card_holds : Rows.PitchFormsCardSaid :=
  Claim7.holds_tied_plain_at .later [] [.data, .data, .data, .sentinel, .sentinel, .data, .data] true Rows.pitchFormsCard.stood.harness true
    pitchForms_holds (fun _ h => by cases h) (by kernel_rfl) (fun _ h => by cases h) pitchForms_row_tie rfl ⟨rfl, rfl⟩ (by kernel_rfl) rfl
    (fun f fn hf hfn => by
      obtain rfl : f = 5 := Option.some.inj ((show Tryd.prog.funcNamed "partita/partitalaw02.PitchForms" = some 5 by kernel_rfl).symm.trans hf) |>.symm
      obtain rfl : fn = Tryd.f5 := (Option.some.inj (Tryd.func5.symm.trans hfn)).symm
      exact ⟨by kernel_rfl, fun j t ht => by
        rw [Tryd.params5] at ht
        have hm : t ∈ [9, 23, 3, 5] := by simpa using Array.mem_of_getElem? ht
        have hall : ([9, 23, 3, 5].all fun u => !Tryd.prog.wantsStandIn u) = true := by kernel_rfl
        exact (show Tryd.prog.wantsStandIn t = false by simpa using List.all_eq_true.1 hall t hm)⟩)
    (by kernel_rfl)
#print axioms pitchForms_card_holds
end Go.Proofs.YtoopchnncjfjoaaDoor
