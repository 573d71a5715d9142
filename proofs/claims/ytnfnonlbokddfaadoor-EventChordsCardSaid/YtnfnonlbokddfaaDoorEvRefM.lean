/-
  The contract of the reference's marks.
-/
import Derived.Test.YtnfnonlbokddfaaDoorEvB
namespace Go.Proofs.YtnfnonlbokddfaaDoor
open Go.RowKit

open Evt (P3 Ev)
def MkRel (xs : List Int) (w : World) (i : Value) (wr : World) : Prop := ∃ k : Nat, k ≤ xs.length ∧ i = .int .i64 (k : Int) ∧ (xs.take k).all Evt.markR = true ∧ Evt.rise Pit.cmp (xs.take k) = true ∧ Below w.heap.size w wr
theorem cmp_pos {a b : Int} : 0 < Pit.cmp a b ↔ b < a := by
  rcases Pit.cmp_cases a b with ⟨h, e⟩ | ⟨h, e⟩ | ⟨h, e⟩ <;> rw [e] <;> constructor <;> intro g <;> omega
theorem marksR_no1 {xs : List Int} {k : Nat} {x : Int} (hx : xs[k]? = some x) (h : Evt.markR x = false) : Evt.marksR xs = false := by
  unfold Evt.marksR; rw [Evt.all_not hx h]; rfl
theorem rise_take' {α : Type} {c : α → α → Int} {l : List α} {k : Nat} {x y : α} (hk : 0 < k) (hy : l[k - 1]? = some y) (hx : l[k]? = some x) (h : Evt.rise c (l.take k) = true) (hc : 0 < c x y) : Evt.rise c (l.take (k + 1)) = true := by
  obtain ⟨j, rfl⟩ : ∃ j, k = j + 1 := ⟨k - 1, by omega⟩
  exact Evt.rise_take hy hx h hc
theorem rise_not' {α : Type} {c : α → α → Int} {l : List α} {k : Nat} {x y : α} (hk : 0 < k) (hy : l[k - 1]? = some y) (hx : l[k]? = some x) (hc : ¬ 0 < c x y) : Evt.rise c l = false := by
  obtain ⟨j, rfl⟩ : ∃ j, k = j + 1 := ⟨k - 1, by omega⟩
  exact Evt.rise_not hy hx hc
theorem marksR_no2 {xs : List Int} {k : Nat} {x y : Int} (hk : 0 < k) (hx : xs[k - 1]? = some x) (hy : xs[k]? = some y) (h : y ≤ x) : Evt.marksR xs = false := by
  unfold Evt.marksR
  rw [rise_not' hk hx hy (fun g => by have := cmp_pos.1 g; omega), Bool.and_false]

set_option maxRecDepth 100000 in
set_option maxHeartbeats 4000000 in
theorem refMarks_any (v : Value) (xs : List Int) (w : World) (h1 : Ints w v xs) :
    Calls Tryd.prog 82 #[v] w fun ed w' => ed = .returned (.bool (Evt.marksR xs)) ∧ Below w.heap.size w w' := by
  have HC := Lib.hid h1
  obtain ⟨p1, cap1, rfl, hl1⟩ := (show ∃ p c, v = .slice p xs.length c ∧ xs.length ≤ 140737488355328 from let ⟨p, c, e, hl, _, _⟩ := h1; ⟨p, c, e, hl⟩)
  clear h1
  obtain ⟨ANS, hA⟩ : ∃ a, a = Evt.marksR xs := ⟨_, rfl⟩
  rw [← hA]
  have HA := Lib.hid hA
  clear hA
  go_enter Tryd.func82, Tryd.ntmps82
  go_wp2
  go_loopw [3] (fun i wr => MkRel xs w i wr) (fun i _ => xs.length - (intOf i).toNat)
  case atStart => exact ⟨0, Nat.zero_le _, rfl, rfl, rfl, Below.refl _ _⟩
  case round =>
    obtain ⟨k, hk, rfl, he, hr, hB⟩ := hrel
    have HE := Lib.hid he
    have HRS := Lib.hid hr
    clear he hr
    by_cases hlt : k < xs.length
    · obtain ⟨x, hx⟩ : ∃ x, xs[k]? = some x := ⟨_, List.getElem?_eq_getElem hlt⟩
      obtain ⟨b1, o1, e1, hcx⟩ := ints_at (HC.out.later hB) hx
      subst e1
      have HX := Lib.hid hx
      clear hx
      have hlt' : (k : Int) < (xs.length : Int) := by omega
      by_cases m1 : x < 1
      · have HF : Hid (Evt.markR x = false) := Lib.hid (by unfold Evt.markR; exact decide_eq_false (by omega))
        have d1 : decide (x < 1) = true := decide_eq_true m1
        go_wp2_with fail
        have g_hcx := fun dd os => cell_regrown hcx dd os
        refine wp_region_quiet_below (by kernel_rfl) (by kernel_rfl) ?_
        repeat (go_big_quiet_step (first | fail))
        refine wpQuiet_nil ?_
        intro _ hw'
        obtain ⟨⟨dq, osq⟩, hw''⟩ := hw'
        subst hw''
        replace hcx := g_hcx dq osq
        clear g_hcx
        have hb_w5 := below_regrown wr dq osq
        generalize Go.Sort.grow (redrawn wr dq) osq = w5 at *
        go_wp2
        go_ret
        exact ⟨ret_bool (HA.out.trans (marksR_no1 HX.out HF.out)).symm, below_two hB hb_w5⟩
      by_cases m2 : 4 < x
      · have HF : Hid (Evt.markR x = false) := Lib.hid (by unfold Evt.markR; exact decide_eq_false (by omega))
        have d1 : decide (x < 1) = false := decide_eq_false m1
        have d2 : decide (4 < x) = true := decide_eq_true m2
        go_wp2_with fail
        have g_hcx := fun dd os => cell_regrown hcx dd os
        refine wp_region_quiet_below (by kernel_rfl) (by kernel_rfl) ?_
        repeat (go_big_quiet_step (first | fail))
        refine wpQuiet_nil ?_
        intro _ hw'
        obtain ⟨⟨dq, osq⟩, hw''⟩ := hw'
        subst hw''
        replace hcx := g_hcx dq osq
        clear g_hcx
        have hb_w5 := below_regrown wr dq osq
        generalize Go.Sort.grow (redrawn wr dq) osq = w5 at *
        go_wp2
        go_ret
        exact ⟨ret_bool (HA.out.trans (marksR_no1 HX.out HF.out)).symm, below_two hB hb_w5⟩
      have HF : Hid (Evt.markR x = true) := Lib.hid (by unfold Evt.markR; exact decide_eq_true (by omega))
      have d1 : decide (x < 1) = false := decide_eq_false m1
      have d2 : decide (4 < x) = false := decide_eq_false m2
      clear m1 m2
      by_cases hk0 : k = 0
      · have d3 : decide ((0 : Int) < (k : Int)) = false := decide_eq_false (by omega)
        have d3n : decide (0 < k) = false := decide_eq_false (by omega)
        have HK0 := Lib.hid hk0
        clear hk0
        go_wp2_with fail
        have g_hcx := fun dd os => cell_regrown hcx dd os
        refine wp_region_quiet_below (by kernel_rfl) (by kernel_rfl) ?_
        repeat (go_big_quiet_step (first | fail))
        refine wpQuiet_nil ?_
        intro _ hw'
        obtain ⟨⟨dq, osq⟩, hw''⟩ := hw'
        subst hw''
        replace hcx := g_hcx dq osq
        clear g_hcx
        have hb_w5 := below_regrown wr dq osq
        generalize Go.Sort.grow (redrawn wr dq) osq = w5 at *
        go_wp2
        go_roundw
        case rel => exact ⟨k + 1, by omega, by go_num, Evt.all_take HX.out HE.out HF.out, by rw [HK0.out]; exact Evt.rise_one _ _, below_two hB hb_w5⟩
        case measure => simp [intOf]; omega
      · have hk1 : 0 < k := by omega
        obtain ⟨y, hy⟩ : ∃ y, xs[k - 1]? = some y := ⟨_, List.getElem?_eq_getElem (by omega)⟩
        obtain ⟨b2, o2, e2, hcy⟩ := ints_at (HC.out.later hB) hy
        cases e2
        have HY := Lib.hid hy
        clear hy
        have d3 : decide ((0 : Int) < (k : Int)) = true := decide_eq_true (by omega)
        have d3n : decide (0 < k) = true := decide_eq_true (by omega)
        have hw1 : IntKind.i64.wrap ((k : Int) - 1) = (k : Int) - 1 := IntWalk.i64_in _ (by omega)
        have hn1 : ((k : Int) - 1).toNat = k - 1 := by omega
        have hlt2 : k - 1 < xs.length := by omega
        have hlt3 : (k : Int) - 1 < (xs.length : Int) := by omega
        have hn0 : 0 ≤ (k : Int) - 1 := by omega
        by_cases hle : x ≤ y
        · have HLE := Lib.hid hle
          have d4 : decide (x ≤ y) = true := decide_eq_true hle
          clear hle
          go_wp2_with fail
          have g_hcx := fun dd os => cell_regrown hcx dd os
          have g_hcy := fun dd os => cell_regrown hcy dd os
          refine wp_region_quiet_below (by kernel_rfl) (by kernel_rfl) ?_
          repeat (go_big_quiet_step (first | fail))
          refine wpQuiet_nil ?_
          intro _ hw'
          obtain ⟨⟨dq, osq⟩, hw''⟩ := hw'
          subst hw''
          replace hcx := g_hcx dq osq
          clear g_hcx
          replace hcy := g_hcy dq osq
          clear g_hcy
          have hb_w5 := below_regrown wr dq osq
          generalize Go.Sort.grow (redrawn wr dq) osq = w5 at *
          go_wp2
          go_ret
          exact ⟨ret_bool (HA.out.trans (marksR_no2 hk1 HY.out HX.out HLE.out)).symm, below_two hB hb_w5⟩
        · have HLE := Lib.hid hle
          have d4 : decide (x ≤ y) = false := decide_eq_false hle
          clear hle
          go_wp2_with fail
          have g_hcx := fun dd os => cell_regrown hcx dd os
          have g_hcy := fun dd os => cell_regrown hcy dd os
          refine wp_region_quiet_below (by kernel_rfl) (by kernel_rfl) ?_
          repeat (go_big_quiet_step (first | fail))
          refine wpQuiet_nil ?_
          intro _ hw'
          obtain ⟨⟨dq, osq⟩, hw''⟩ := hw'
          subst hw''
          replace hcx := g_hcx dq osq
          clear g_hcx
          replace hcy := g_hcy dq osq
          clear g_hcy
          have hb_w5 := below_regrown wr dq osq
          generalize Go.Sort.grow (redrawn wr dq) osq = w5 at *
          go_wp2
          clear hw1 hn1 hlt3 hn0
          go_roundw
          case rel => exact ⟨k + 1, by omega, by go_num, Evt.all_take HX.out HE.out HF.out, rise_take' hk1 HY.out HX.out HRS.out (cmp_pos.2 (by have := HLE.out; omega)), below_two hB hb_w5⟩
          case measure => simp [intOf]; omega
    · obtain rfl : k = xs.length := by omega
      have hge : ¬ (xs.length : Int) < (xs.length : Int) := by omega
      go_wp2
      go_ret
      exact ⟨ret_bool (by rw [HA.out]; unfold Evt.marksR; have h1 := HE.out; have h2 := HRS.out; rw [List.take_length] at h1 h2; rw [h1, h2]; rfl), hB⟩
theorem refMarks_is {v : Value} {xs : List Int} {b : Bool} (h : Evt.marksR xs = b) (w : World) (h1 : Ints w v xs) : Calls Tryd.prog 82 #[v] w fun ed w' => ed = .returned (.bool b) ∧ Below w.heap.size w w' := by subst h; exact refMarks_any v xs w h1
end Go.Proofs.YtnfnonlbokddfaaDoor
