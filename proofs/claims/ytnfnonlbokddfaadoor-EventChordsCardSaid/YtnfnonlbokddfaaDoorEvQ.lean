/-
  The contracts of the reference's Few, the law's few and c.
-/
import Derived.Test.YtnfnonlbokddfaaDoorEvK
namespace Go.Proofs.YtnfnonlbokddfaaDoor
open Go.RowKit

open Evt (P3 Ev)
def fewE (x : Ev) : Bool := decide (x.ps.length ≤ 20) && (decide (x.ts.length ≤ 20) && (decide (x.ms.length ≤ 20) && decide (x.s.size ≤ 100)))
def fewL (l : List Ev) : Bool := decide (l.length ≤ 6) && l.all fewE
theorem few_of {x : Ev} (h : fewE x = true) : x.ps.length ≤ 20 ∧ x.ts.length ≤ 20 ∧ x.ms.length ≤ 20 ∧ x.s.size ≤ 100 := by
  unfold fewE at h
  rw [Bool.and_eq_true, Bool.and_eq_true, Bool.and_eq_true, decide_eq_true_iff, decide_eq_true_iff, decide_eq_true_iff, decide_eq_true_iff] at h
  exact h

set_option maxRecDepth 100000 in
set_option maxHeartbeats 4000000 in
theorem few_any (x : Ev) (vp vt vm : Value) (w : World) (h : EvR w vp vt vm x) : Calls Tryd.prog 13 #[evv x vp vt vm] w fun ed w' => ed = .returned (.bool (fewE x)) ∧ Below w.heap.size w w' := by
  obtain ⟨k, ps, ts, b, d, n, e0, ms, str⟩ := x
  obtain ⟨hps, hts, hms, hsz⟩ := h
  dsimp only at hps hts hms hsz ⊢
  have Hps := Lib.hid hps
  obtain ⟨pps, cps, rfl, lps⟩ := sl_shape hps
  have Hts := Lib.hid hts
  obtain ⟨pts, cts, rfl, lts⟩ := sl_shape hts
  have Hms := Lib.hid hms
  obtain ⟨pms, cms, rfl, lms⟩ := sl_shape hms
  clear hps hts hms
  unfold fewE
  dsimp only
  by_cases h1 : ps.length ≤ 20
  case neg =>
    rw [decide_eq_false h1]
    have t1 : ¬ (ps.length : Int) ≤ 20 := by omega
    clear h1
    go_enter Tryd.func13, Tryd.ntmps13
    go_wp2
    go_ret
    exact ⟨rfl, (Below.refl _ _).alloc (Nat.le_refl _) _⟩
  case pos =>
  rw [decide_eq_true h1]
  have t1 : (ps.length : Int) ≤ 20 := by omega
  by_cases h2 : ts.length ≤ 20
  case neg =>
    rw [decide_eq_false h2]
    have t2 : ¬ (ts.length : Int) ≤ 20 := by omega
    clear h1 h2
    go_enter Tryd.func13, Tryd.ntmps13
    go_wp2
    go_ret
    exact ⟨rfl, (Below.refl _ _).alloc (Nat.le_refl _) _⟩
  case pos =>
  rw [decide_eq_true h2]
  have t2 : (ts.length : Int) ≤ 20 := by omega
  by_cases h3 : ms.length ≤ 20
  case neg =>
    rw [decide_eq_false h3]
    have t3 : ¬ (ms.length : Int) ≤ 20 := by omega
    clear h1 h2 h3
    go_enter Tryd.func13, Tryd.ntmps13
    go_wp2
    go_ret
    exact ⟨rfl, (Below.refl _ _).alloc (Nat.le_refl _) _⟩
  case pos =>
  rw [decide_eq_true h3]
  have t3 : (ms.length : Int) ≤ 20 := by omega
  by_cases h4 : str.size ≤ 100
  case neg =>
    rw [decide_eq_false h4]
    have t4 : ¬ (str.size : Int) ≤ 100 := by omega
    clear h1 h2 h3 h4
    go_enter Tryd.func13, Tryd.ntmps13
    go_wp2
    go_ret
    exact ⟨rfl, (Below.refl _ _).alloc (Nat.le_refl _) _⟩
  case pos =>
    rw [decide_eq_true h4]
    have t4 : (str.size : Int) ≤ 100 := by omega
    clear h1 h2 h3 h4
    go_enter Tryd.func13, Tryd.ntmps13
    go_wp2
    go_ret
    exact ⟨rfl, (Below.refl _ _).alloc (Nat.le_refl _) _⟩
theorem few_is {x : Ev} {q : Bool} (hq : fewE x = q) (vp vt vm : Value) (w : World) (h : EvR w vp vt vm x) : Calls Tryd.prog 13 #[evv x vp vt vm] w fun ed w' => ed = .returned (.bool q) ∧ Below w.heap.size w w' := by subst hq; exact few_any x vp vt vm w h

def FwR (ys : List EM) (w : World) (i : Value) (wr : World) : Prop := ∃ k : Nat, k ≤ ys.length ∧ k ≤ 7 ∧ i = .int .i64 (k : Int) ∧ (ys.take k).all (fun y => fewE y.1) = true ∧ Below w.heap.size w wr
theorem fewL_no {ys : List EM} {k : Nat} {y : EM} (hy : ys[k]? = some y) (h : fewE y.1 = false) : fewL (ys.map Prod.fst) = false := by
  unfold fewL
  rw [List.all_map]
  rw [show ys.all (fewE ∘ Prod.fst) = false from Evt.all_not hy h, Bool.and_false]
theorem fewL_long {ys : List EM} (h : ¬ ys.length ≤ 6) : fewL (ys.map Prod.fst) = false := by
  unfold fewL; rw [List.length_map, decide_eq_false h]; rfl
theorem fewL_yes {ys : List EM} (h : ys.length ≤ 6) (h2 : ys.all (fun y => fewE y.1) = true) : fewL (ys.map Prod.fst) = true := by
  unfold fewL; rw [List.length_map, decide_eq_true h, List.all_map]; exact h2

set_option maxRecDepth 100000 in
set_option maxHeartbeats 4000000 in
theorem fewL_any (v : Value) (ys : List EM) (w : World) (h : Evs w v ys) :
    Calls Tryd.prog 17 #[v] w fun ed w' => ed = .returned (.bool (fewL (ys.map Prod.fst))) ∧ Below w.heap.size w w' := by
  have HC := Lib.hid h
  obtain ⟨p0, c0, rfl, hl1⟩ := sl_shape h.row
  obtain ⟨ANS, hA⟩ : ∃ a, a = fewL (ys.map Prod.fst) := ⟨_, rfl⟩
  rw [← hA]
  have HAN := Lib.hid hA
  clear h hA
  go_enter Tryd.func17, Tryd.ntmps17
  go_wp2
  go_loopw [3] (fun i wr => FwR ys w i wr) (fun i _ => 7 - (intOf i).toNat)
  case atStart => exact ⟨0, Nat.zero_le _, by omega, rfl, rfl, Below.refl _ _⟩
  case round =>
    obtain ⟨k, hk, hk7, rfl, he, hB⟩ := hrel
    have HE := Lib.hid he
    clear he
    by_cases hlt : k < ys.length
    · by_cases h7 : k < 7
      · obtain ⟨y, hy⟩ : ∃ y, ys[k]? = some y := ⟨_, List.getElem?_eq_getElem hlt⟩
        have hyR := HC.out.each y (List.mem_of_getElem? hy)
        obtain ⟨p1, c1, p2, c2, p3, c3, hys⟩ := evs_shape hyR
        have hat := evs_at HC.out hy
        generalize y.1 = x at *
        subst hys
        obtain ⟨k0, ps, ts, b, d, n, e0, ms, str⟩ := x
        obtain ⟨b1, o1, e1, hc0, hc1, hc2, hc3, hc4, hc5, hc6, hc7, hc8⟩ := hat
        subst e1
        dsimp only at hyR hc0 hc1 hc2 hc3 hc4 hc5 hc6 hc7 hc8
        have hsz := hyR.sz
        replace hc0 := cell_later hB hc0
        replace hc1 := cell_later hB hc1
        replace hc2 := cell_later hB hc2
        replace hc3 := cell_later hB hc3
        replace hc4 := cell_later hB hc4
        replace hc5 := cell_later hB hc5
        replace hc6 := cell_later hB hc6
        replace hc7 := cell_later hB hc7
        replace hc8 := cell_later hB hc8
        have HER : Hid (EvR wr (.slice p1 ps.length c1) (.slice p2 ts.length c2) (.slice p3 ms.length c3) ⟨k0, ps, ts, b, d, n, e0, ms, str⟩) := Lib.hid (hyR.later hB)
        have HY := Lib.hid hy
        have hlt' : (k : Int) < (ys.length : Int) := by omega
        clear hy hyR
        have h7' : (k : Int) < 7 := by omega
        cases hf : fewE (⟨k0, ps, ts, b, d, n, e0, ms, str⟩ : Ev)
        · have HF := Lib.hid hf
          clear hf
          go_wp2_with fail
          refine (few_is (x := (⟨k0, ps, ts, b, d, n, e0, ms, str⟩ : Ev)) HF.out _ _ _ _ HER.out).mono ?_
          rintro e w5 ⟨rfl, hb5⟩
          go_wp2
          go_ret
          exact ⟨ret_bool (HAN.out.trans (fewL_no HY.out HF.out)).symm, below_two hB hb5⟩
        · have HF := Lib.hid hf
          clear hf
          go_wp2_with fail
          refine (few_is (x := (⟨k0, ps, ts, b, d, n, e0, ms, str⟩ : Ev)) HF.out _ _ _ _ HER.out).mono ?_
          rintro e w5 ⟨rfl, hb5⟩
          go_wp2
          go_roundw
          case rel => exact ⟨k + 1, by omega, by omega, by go_num, Evt.all_take (f := fun y => fewE y.1) HY.out HE.out HF.out, below_two hB hb5⟩
          case measure => simp [intOf]; omega
      · have h7' : ¬ (k : Int) < 7 := by omega
        have hlt' : (k : Int) < (ys.length : Int) := by omega
        have h6 : ¬ (ys.length : Int) ≤ 6 := by omega
        have h6n : ¬ ys.length ≤ 6 := by omega
        have HN := Lib.hid (fewL_long h6n)
        clear h6n
        go_wp2
        go_ret
        exact ⟨ret_bool (HAN.out.trans HN.out).symm, hB⟩
    · obtain rfl : k = ys.length := by omega
      have HN : Hid (fewL (ys.map Prod.fst) = decide (ys.length ≤ 6)) := Lib.hid (by
        by_cases h6 : ys.length ≤ 6
        · rw [decide_eq_true h6]; exact fewL_yes h6 (by have := HE.out; rwa [List.take_length] at this)
        · rw [decide_eq_false h6]; exact fewL_long h6)
      by_cases h6 : ys.length ≤ 6
      · have h6' : (ys.length : Int) ≤ 6 := by omega
        have HN2 := Lib.hid (HN.out.trans (decide_eq_true h6))
        clear h6
        go_wp2
        go_ret
        exact ⟨ret_bool (HAN.out.trans HN2.out).symm, hB⟩
      · have h6' : ¬ (ys.length : Int) ≤ 6 := by omega
        have HN2 := Lib.hid (HN.out.trans (decide_eq_false h6))
        clear h6
        go_wp2
        go_ret
        exact ⟨ret_bool (HAN.out.trans HN2.out).symm, hB⟩
theorem fewL_is {ys : List EM} {q : Bool} (hq : fewL (ys.map Prod.fst) = q) (v : Value) (w : World) (h : Evs w v ys) : Calls Tryd.prog 17 #[v] w fun ed w' => ed = .returned (.bool q) ∧ Below w.heap.size w w' := by subst hq; exact fewL_any v ys w h

/-- The law's c. -/
def evC (st : Int) (t : Bool) (str : ByteArray) : Ev := ⟨1, [(st, 0, 4)], [t], 2, 0, 0, 0, [], str⟩
theorem sl_one {α : Type} {k : Nat} {enc : α → List Value} {W : World} {B : Nat} {x : α} (h : ∀ (j : Nat) (u : Value), (enc x)[j]? = some u → W.cell? ⟨B, j, .none⟩ = some u) : Sl k enc W (.slice (some ⟨B, 0, .none⟩) 1 1) [x] :=
  ⟨_, 1, rfl, by simp, by simp, fun i y hi => by
    cases i with
    | zero =>
      simp at hi; subst hi
      refine ⟨B, 0, rfl, fun j u hu => ?_⟩
      have := h j u hu
      simpa using this
    | succ i => simp at hi⟩

set_option maxRecDepth 100000 in
set_option maxHeartbeats 4000000 in
theorem c_any (st : Int) (t : Bool) (w : World) :
    Calls Tryd.prog 35 #[.int .i64 st, .bool t] w fun ed w' => (∃ p1 c1 p2 c2, ed = .returned (evv (evC st t ⟨#[]⟩) (.slice p1 1 c1) (.slice p2 1 c2) (.slice none 0 0)) ∧ EvR w' (.slice p1 1 c1) (.slice p2 1 c2) (.slice none 0 0) (evC st t ⟨#[]⟩)) ∧ Below w.heap.size w w' := by
  go_enter Tryd.func35, Tryd.ntmps35
  go_wp2
  have hB : Below w.heap.size w (((w.alloc (.cells #[.int .i64 1, .slice (some ⟨w.heap.size + 1, 0, none⟩) 1 1, .slice (some ⟨w.heap.size + 1 + 1, 0, none⟩) 1 1, .int .i64 2, .int .i64 0, .int .i64 0, .int .i64 0, .slice none 0 0, .string ⟨#[]⟩] 28)).alloc (.cells #[.int .i64 st, .int .i64 0, .int .i64 4] 57)).alloc (.cells #[.bool t] 4)) := (((Below.refl _ _).alloc (Nat.le_refl _) _).alloc (by simp) _).alloc (by simp; omega) _
  have hp : Pits (((w.alloc (.cells #[.int .i64 1, .slice (some ⟨w.heap.size + 1, 0, none⟩) 1 1, .slice (some ⟨w.heap.size + 1 + 1, 0, none⟩) 1 1, .int .i64 2, .int .i64 0, .int .i64 0, .int .i64 0, .slice none 0 0, .string ⟨#[]⟩] 28)).alloc (.cells #[.int .i64 st, .int .i64 0, .int .i64 4] 57)).alloc (.cells #[.bool t] 4)) (.slice (some ⟨w.heap.size + 1, 0, none⟩) 1 1) [(st, 0, 4)] := sl_one (fun j u hu => by
    rcases j with _ | _ | _ | j
    · simp [encP] at hu; subst hu; go_simp
    · simp [encP] at hu; subst hu; go_simp
    · simp [encP] at hu; subst hu; go_simp
    · simp [encP] at hu)
  have ht : Bools (((w.alloc (.cells #[.int .i64 1, .slice (some ⟨w.heap.size + 1, 0, none⟩) 1 1, .slice (some ⟨w.heap.size + 1 + 1, 0, none⟩) 1 1, .int .i64 2, .int .i64 0, .int .i64 0, .int .i64 0, .slice none 0 0, .string ⟨#[]⟩] 28)).alloc (.cells #[.int .i64 st, .int .i64 0, .int .i64 4] 57)).alloc (.cells #[.bool t] 4)) (.slice (some ⟨w.heap.size + 1 + 1, 0, none⟩) 1 1) [t] := sl_one (fun j u hu => by
    rcases j with _ | j
    · simp [encB] at hu; subst hu; go_simp
    · simp [encB] at hu)
  refine bodyPost_ret (v := evv (evC st t ⟨#[]⟩) (.slice (some ⟨w.heap.size + 1, 0, none⟩) 1 1) (.slice (some ⟨w.heap.size + 1 + 1, 0, none⟩) 1 1) (.slice none 0 0)) (by simp [results, Tryd.results35, go_sem, evv, evC]) rfl ⟨⟨_, _, _, _, rfl, ⟨hp, ht, Sl.none _ _ _, by show (0 : Nat) ≤ _; omega⟩⟩, hB⟩
end Go.Proofs.YtnfnonlbokddfaaDoor
