/-
  Events in memory; the contracts of event's wordRight, restRight, chordRight, Right.
-/
import Derived.Test.YtobhmiknlbjmkaaDoorEvB
import Derived.Test.YtobhmiknlbjmkaaDoorEvShelf
namespace Go.Proofs.YtobhmiknlbjmkaaDoor
open Go.RowKit

open Evt (P3 Ev)
/-- An event as a value of Go's, its lists given. -/
abbrev evv (x : Ev) (vp vt vm : Value) : Value := .agg #[.int .i64 x.k, vp, vt, .int .i64 x.b, .int .i64 x.d, .int .i64 x.n, .int .i64 x.e, vm, .string x.s]
/-- What an event's lists hold. -/
structure EvR (W : World) (vp vt vm : Value) (x : Ev) : Prop where
  ps : Pits W vp x.ps
  ts : Bools W vt x.ts
  ms : Ints W vm x.ms
  sz : x.s.size ≤ 140737488355328
theorem EvR.later {W W' : World} {vp vt vm : Value} {x : Ev} (h : EvR W vp vt vm x) (hb : Below W.heap.size W W') : EvR W' vp vt vm x := ⟨h.ps.later hb, h.ts.later hb, h.ms.later hb, h.sz⟩
def ByteRel (s : ByteArray) (w : World) (i : Value) (wr : World) : Prop := ∃ k : Nat, k ≤ s.size ∧ i = .int .i64 (k : Int) ∧ (s.data.toList.take k).all Evt.byteR = true ∧ Below w.heap.size w wr
theorem byte_at (s : ByteArray) (k : Nat) (h : k < s.size) : s.data.toList[k]? = some s[k] := (List.getElem?_eq_getElem (by simpa using h)).trans rfl

set_option maxRecDepth 100000 in
set_option maxHeartbeats 4000000 in
theorem wordRight_any (s : ByteArray) (w : World) (hs : s.size ≤ 140737488355328) (hR : Ready w) :
    Calls Tryd.prog 43 #[.string s] w fun ed w' => ed = .returned (.bool (Evt.wordR s)) ∧ Below w.heap.size w w' := by
  by_cases h40 : s.size ≤ 40
  case neg =>
    rw [show Evt.wordR s = false by unfold Evt.wordR; rw [decide_eq_false h40]; rfl]
    have hgt : (40 : Int) < (s.size : Int) := by omega
    go_enter Tryd.func43, Tryd.ntmps43
    go_wp2
    go_ret
    exact ⟨rfl, Below.refl _ _⟩
  case pos =>
  have hgt : ¬ (40 : Int) < (s.size : Int) := by omega
  cases hv : Lib.validD s.data.toList
  · rw [show Evt.wordR s = false by unfold Evt.wordR; rw [hv]; simp]
    have HV := Lib.hid hv
    clear hv
    go_enter Tryd.func43, Tryd.ntmps43
    go_wp2_with (go_at_call 65; refine (validString_any s _ (by omega) hR).mono ?_; rintro e w1 ⟨rfl, hb⟩; rw [HV.out])
    go_ret
    exact ⟨rfl, hb⟩
  · rw [show Evt.wordR s = s.data.toList.all Evt.byteR by unfold Evt.wordR; rw [hv, decide_eq_true h40]; simp]
    obtain ⟨ANS, hA⟩ : ∃ a, a = s.data.toList.all Evt.byteR := ⟨_, rfl⟩
    rw [← hA]
    have HA := Lib.hid hA
    have HV := Lib.hid hv
    clear hv hA
    go_enter Tryd.func43, Tryd.ntmps43
    go_wp2_with (go_at_call 65; refine (validString_any s _ (by omega) hR).mono ?_; rintro e w1 ⟨rfl, hb⟩; rw [HV.out])
    go_loopw [14] (fun i wr => ByteRel s w i wr) (fun i _ => s.size - (intOf i).toNat)
    case atStart => exact ⟨0, Nat.zero_le _, rfl, rfl, hb⟩
    case round =>
      obtain ⟨k, hk, rfl, he, hB⟩ := hrel
      have HE := Lib.hid he
      clear he
      by_cases hlt : k < s.size
      · have HX := Lib.hid (byte_at s k hlt)
        have hlt' : (k : Int) < (s.size : Int) := by omega
        by_cases h1 : (s[k].toNat : Int) < 32
        · have HF : Hid (Evt.byteR s[k] = false) := Lib.hid (by unfold Evt.byteR; exact decide_eq_false (by omega))
          go_wp2
          go_ret
          exact ⟨ret_bool (HA.out.trans (Evt.all_not HX.out HF.out)).symm, hB⟩
        · by_cases h2 : (s[k].toNat : Int) = 127
          · have HF : Hid (Evt.byteR s[k] = false) := Lib.hid (by unfold Evt.byteR; exact decide_eq_false (by omega))
            have h3 : ((s[k].toNat : Int) == 127) = true := by simpa using h2
            clear h2
            go_wp2
            go_ret
            exact ⟨ret_bool (HA.out.trans (Evt.all_not HX.out HF.out)).symm, hB⟩
          · have HF : Hid (Evt.byteR s[k] = true) := Lib.hid (by unfold Evt.byteR; exact decide_eq_true (by omega))
            have h3 : ((s[k].toNat : Int) == 127) = false := by simpa using h2
            clear h2
            go_wp2
            go_roundw
            case rel => exact ⟨k + 1, by omega, by go_num, Evt.all_take HX.out HE.out HF.out, hB⟩
            case measure => simp [intOf]; omega
      · obtain rfl : k = s.size := by omega
        go_wp2
        go_ret
        exact ⟨ret_bool (by have := HE.out; rw [List.take_of_length_le (by simp)] at this; exact (HA.out.trans this).symm), hB⟩
theorem wordRight_is {s : ByteArray} {b : Bool} (h : Evt.wordR s = b) (w : World) (hs : s.size ≤ 140737488355328) (hR : Ready w) :
    Calls Tryd.prog 43 #[.string s] w fun ed w' => ed = .returned (.bool b) ∧ Below w.heap.size w w' := by subst h; exact wordRight_any s w hs hR
theorem sl_shape {α : Type} {k : Nat} {enc : α → List Value} {W : World} {v : Value} {l : List α} (h : Sl k enc W v l) : ∃ p c, v = .slice p l.length c ∧ l.length ≤ 140737488355328 := let ⟨p, c, e, hl, _, _⟩ := h; ⟨p, c, e, hl⟩
theorem size_ne {s : ByteArray} (h : ¬ s.size = 0) : s ≠ ByteArray.empty := fun e => h (by rw [e]; rfl)
theorem everyI_ferm_is {v : Value} {xs : List Int} {b : Bool} (h : xs.all Evt.ferm = b) (w : World) (h1 : Ints w v xs) :
    Calls Tryd.prog 66 #[v, .func (.func 69) #[] #[]] w fun ed w' => ed = .returned (.bool b) ∧ Below w.heap.size w w' := by subst h; exact everyI_ferm v xs w h1
theorem everyP_right_is {v : Value} {xs : List P3} {b : Bool} (h : xs.all Evt.rgt = b) (w : World) (h1 : Pits w v xs) (hR : Ready w) :
    Calls Tryd.prog 71 #[v, .func (.func 72) #[] #[]] w fun ed w' => ed = .returned (.bool b) ∧ Below w.heap.size w w' := by subst h; exact everyP_right v xs w h1 hR
theorem risingP_is {v : Value} {xs : List P3} {b : Bool} (h : Evt.rise Evt.cp xs = b) (w : World) (h1 : Pits w v xs) (hR : Ready w) :
    Calls Tryd.prog 73 #[v, .func (.func 74) #[] #[]] w fun ed w' => ed = .returned (.bool b) ∧ Below w.heap.size w w' := by subst h; exact risingP v xs w h1 hR
theorem vright_is {b d n e : Int} {q : Bool} (h : Val.ok b d n e = q) (w : World) :
    Calls Tryd.prog 42 #[vl b d n e] w fun ed w' => ed = .returned (.bool q) ∧ Below w.heap.size w w' := by subst h; exact vright_any b d n e w

set_option maxRecDepth 100000 in
set_option maxHeartbeats 4000000 in
theorem restRight_any (x : Ev) (vp vt vm : Value) (w : World) (h : EvR w vp vt vm x) :
    Calls Tryd.prog 45 #[evv x vp vt vm] w fun ed w' => ed = .returned (.bool (Evt.restR x)) ∧ Below w.heap.size w w' := by
  obtain ⟨k, ps, ts, b, d, n, e0, ms, str⟩ := x
  obtain ⟨hps, hts, hms, hsz⟩ := h
  dsimp only at hps hts hms hsz ⊢
  have Hps := Lib.hid hps
  obtain ⟨pps, cps, rfl, lps⟩ := sl_shape hps
  have Hts := Lib.hid hts
  obtain ⟨pts, cts, rfl, lts⟩ := sl_shape hts
  have Hms := Lib.hid hms
  obtain ⟨pms, cms, rfl, lms⟩ := sl_shape hms
  clear hps hts hms
  by_cases hp0 : ps.length = 0
  case neg =>
    rw [show Evt.restR ⟨k, ps, ts, b, d, n, e0, ms, str⟩ = false by unfold Evt.restR; rw [decide_eq_false hp0]; rfl]
    have t1 : ((ps.length : Int) == 0) = false := by simpa using hp0
    clear hp0
    go_enter Tryd.func45, Tryd.ntmps45
    go_wp2
    go_ret
    exact ⟨rfl, ((Below.refl _ _).alloc (Nat.le_refl _) _)⟩
  case pos =>
  by_cases ht0 : ts.length = 0
  case neg =>
    rw [show Evt.restR ⟨k, ps, ts, b, d, n, e0, ms, str⟩ = false by unfold Evt.restR; rw [decide_eq_false ht0]; simp]
    have t1 : ((ps.length : Int) == 0) = true := by simpa using hp0
    have t2 : ((ts.length : Int) == 0) = false := by simpa using ht0
    clear hp0 ht0
    go_enter Tryd.func45, Tryd.ntmps45
    go_wp2
    go_ret
    exact ⟨rfl, ((Below.refl _ _).alloc (Nat.le_refl _) _)⟩
  case pos =>
  by_cases hs0 : str.size = 0
  case neg =>
    rw [show Evt.restR ⟨k, ps, ts, b, d, n, e0, ms, str⟩ = false by unfold Evt.restR; rw [decide_eq_false hs0]; simp]
    have t1 : ((ps.length : Int) == 0) = true := by simpa using hp0
    have t2 : ((ts.length : Int) == 0) = true := by simpa using ht0
    have t3 : ¬ str.toList = [] := by rw [ByteArray.toList_eq]; intro e; exact hs0 (by have := congrArg List.length e; simpa using this)
    clear hp0 ht0 hs0
    go_enter Tryd.func45, Tryd.ntmps45
    go_wp2
    go_ret
    exact ⟨rfl, ((Below.refl _ _).alloc (Nat.le_refl _) _)⟩
  case pos =>
  obtain ⟨q, hq⟩ : ∃ q, ms.all Evt.ferm = q := ⟨_, rfl⟩
  rw [show Evt.restR ⟨k, ps, ts, b, d, n, e0, ms, str⟩ = q by unfold Evt.restR; rw [decide_eq_true hp0, decide_eq_true ht0, decide_eq_true hs0, hq]; rfl]
  have HQ := Lib.hid hq
  have t1 : ((ps.length : Int) == 0) = true := by simpa using hp0
  have t2 : ((ts.length : Int) == 0) = true := by simpa using ht0
  have t3 : str.toList = [] := by rw [ByteArray.toList_eq]; exact List.eq_nil_of_length_eq_zero (by simpa using hs0)
  clear hp0 ht0 hs0 hq
  go_enter Tryd.func45, Tryd.ntmps45
  go_wp2_with (go_at_call 66; refine (everyI_ferm_is HQ.out _ (Hms.out.later ((Below.refl _ _).alloc (Nat.le_refl _) _))).mono ?_; rintro e w1 ⟨rfl, hb⟩)
  all_goals
    go_ret
    exact ⟨rfl, ((Below.refl _ _).alloc (Nat.le_refl _) _).trans (hb.mono (by simp))⟩

set_option maxRecDepth 100000 in
set_option maxHeartbeats 4000000 in
theorem chordRight_any (x : Ev) (vp vt vm : Value) (w : World) (h : EvR w vp vt vm x) (hR : Ready w) :
    Calls Tryd.prog 46 #[evv x vp vt vm] w fun ed w' => ed = .returned (.bool (Evt.chordR x)) ∧ Below w.heap.size w w' := by
  obtain ⟨k, ps, ts, b, d, n, e0, ms, str⟩ := x
  obtain ⟨hps, hts, hms, hsz⟩ := h
  dsimp only at hps hts hms hsz ⊢
  have Hps := Lib.hid hps
  obtain ⟨pps, cps, rfl, lps⟩ := sl_shape hps
  have Hts := Lib.hid hts
  obtain ⟨pts, cts, rfl, lts⟩ := sl_shape hts
  have Hms := Lib.hid hms
  obtain ⟨pms, cms, rfl, lms⟩ := sl_shape hms
  clear hps hts hms
  obtain ⟨q0, h0⟩ : ∃ q, decide ((1 : Int) ≤ (ps.length : Int) ∧ (ps.length : Int) ≤ 8) = q := ⟨_, rfl⟩
  have h0' : decide (1 ≤ ps.length ∧ ps.length ≤ 8) = q0 := by rw [← h0]; exact decide_eq_decide.2 (by omega)
  have HW := Lib.hid h0
  clear h0
  cases q0
  · rw [show Evt.chordR ⟨k, ps, ts, b, d, n, e0, ms, str⟩ = false by unfold Evt.chordR; rw [h0']; rfl]
    clear h0'
    go_enter Tryd.func46, Tryd.ntmps46
    go_wp2_with (go_at_call 70; refine (ewithin_is HW.out _).mono ?_; rintro e w1 ⟨rfl, rfl⟩)
    go_ret
    exact ⟨rfl, ((Below.refl _ _).alloc (Nat.le_refl _) _)⟩
  by_cases ht : ts.length = ps.length
  case neg =>
    rw [show Evt.chordR ⟨k, ps, ts, b, d, n, e0, ms, str⟩ = false by unfold Evt.chordR; rw [h0', decide_eq_false ht]; rfl]
    have t1 : ((ts.length : Int) == (ps.length : Int)) = false := by simp; omega
    clear h0' ht
    go_enter Tryd.func46, Tryd.ntmps46
    go_wp2_with (go_at_call 70; refine (ewithin_is HW.out _).mono ?_; rintro e w1 ⟨rfl, rfl⟩)
    go_ret
    exact ⟨rfl, ((Below.refl _ _).alloc (Nat.le_refl _) _)⟩
  case pos =>
  have t1 : ((ts.length : Int) == (ps.length : Int)) = true := by simp; omega
  obtain ⟨q1, h1⟩ : ∃ q, ps.all Evt.rgt = q := ⟨_, rfl⟩
  obtain ⟨q2, h2⟩ : ∃ q, Evt.rise Evt.cp ps = q := ⟨_, rfl⟩
  have hq : Evt.chordR ⟨k, ps, ts, b, d, n, e0, ms, str⟩ = (q1 && q2) := by unfold Evt.chordR; rw [h0', decide_eq_true ht, h1, h2]; rfl
  rw [hq]
  have HE := Lib.hid h1
  have HS := Lib.hid h2
  clear h0' ht h1 h2 hq
  cases q1
  · go_enter Tryd.func46, Tryd.ntmps46
    go_wp2_with (first | (go_at_call 70; refine (ewithin_is HW.out _).mono ?_; rintro e w1 ⟨rfl, rfl⟩) | (go_at_call 71; refine (everyP_right_is HE.out _ (Hps.out.later ((Below.refl _ _).alloc (Nat.le_refl _) _)) (hR.below ((Below.refl _ _).alloc (Nat.le_refl _) _))).mono ?_; rintro e w2 ⟨rfl, hb⟩; obtain ⟨hcl, hfl⟩ := bcell hb))
    go_ret
    exact ⟨rfl, ((Below.refl _ _).alloc (Nat.le_refl _) _).trans (hb.mono (by simp))⟩
  · go_enter Tryd.func46, Tryd.ntmps46
    go_wp2_with (first | (go_at_call 70; refine (ewithin_is HW.out _).mono ?_; rintro e w1 ⟨rfl, rfl⟩) | (go_at_call 71; refine (everyP_right_is HE.out _ (Hps.out.later ((Below.refl _ _).alloc (Nat.le_refl _) _)) (hR.below ((Below.refl _ _).alloc (Nat.le_refl _) _))).mono ?_; rintro e w2 ⟨rfl, hb⟩; obtain ⟨hcl, hfl⟩ := bcell hb) | (go_at_call 73; refine (risingP_is HS.out _ (Hps.out.later (below_two ((Below.refl _ _).alloc (Nat.le_refl _) _) (hb.mono (by simp)))) (hR.below (below_two ((Below.refl _ _).alloc (Nat.le_refl _) _) (hb.mono (by simp))))).mono ?_; rintro e w3 ⟨rfl, hb2⟩))
    all_goals
      go_ret
      exact ⟨rfl, below_two (((Below.refl _ _).alloc (Nat.le_refl _) _).trans (hb.mono (by simp))) hb2⟩
theorem restRight_is {x : Ev} {q : Bool} (hq : Evt.restR x = q) (vp vt vm : Value) (w : World) (h : EvR w vp vt vm x) :
    Calls Tryd.prog 45 #[evv x vp vt vm] w fun ed w' => ed = .returned (.bool q) ∧ Below w.heap.size w w' := by subst hq; exact restRight_any x vp vt vm w h
theorem chordRight_is {x : Ev} {q : Bool} (hq : Evt.chordR x = q) (vp vt vm : Value) (w : World) (h : EvR w vp vt vm x) (hR : Ready w) :
    Calls Tryd.prog 46 #[evv x vp vt vm] w fun ed w' => ed = .returned (.bool q) ∧ Below w.heap.size w w' := by subst hq; exact chordRight_any x vp vt vm w h hR
end Go.Proofs.YtobhmiknlbjmkaaDoor
