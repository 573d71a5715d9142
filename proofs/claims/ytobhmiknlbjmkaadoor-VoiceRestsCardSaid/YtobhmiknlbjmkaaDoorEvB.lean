/-
  The contracts of event's within, isMark, isFermata, every and rising, marksRight.
-/
import Derived.Test.YtobhmiknlbjmkaaDoorEvA
import Derived.IntWalk
namespace Go.Proofs.YtobhmiknlbjmkaaDoor
open Go.RowKit

open Evt (P3 Ev)
theorem ewithin_any (n l m : Int) (w : World) :
    Calls Tryd.prog 70 #[.int .i64 n, .int .i64 l, .int .i64 m] w fun e w' => e = .returned (.bool (decide (l ≤ n ∧ n ≤ m))) ∧ w = w' := by
  by_cases h1 : l ≤ n
  · have e : decide (l ≤ n ∧ n ≤ m) = decide (n ≤ m) := by simp [h1]
    rw [e]
    go_enter Tryd.func70, Tryd.ntmps70
    go_wp2
    go_ret
    exact ⟨rfl, rfl⟩
  · have e : decide (l ≤ n ∧ n ≤ m) = false := by simp [h1]
    rw [e]
    go_enter Tryd.func70, Tryd.ntmps70
    go_wp2
    go_ret
    exact ⟨rfl, rfl⟩
theorem ewithin_is {n l m : Int} {b : Bool} (h : decide (l ≤ n ∧ n ≤ m) = b) (w : World) : Calls Tryd.prog 70 #[.int .i64 n, .int .i64 l, .int .i64 m] w fun e w' => e = .returned (.bool b) ∧ w = w' := by subst h; exact ewithin_any n l m w
theorem isMark_is {m : Int} {b : Bool} (h : Evt.markR m = b) (w : World) : Calls Tryd.prog 67 #[.int .i64 m] w fun e w' => e = .returned (.bool b) ∧ w = w' := by
  have h' : decide (1 ≤ m ∧ m ≤ 4) = b := h
  go_enter Tryd.func67, Tryd.ntmps67
  go_wp2_with (go_at_call 70; refine (ewithin_is h' _).mono ?_; rintro e w' ⟨rfl, rfl⟩)
  go_ret
  exact ⟨rfl, rfl⟩
theorem isFermata_is {m : Int} {b : Bool} (h : Evt.ferm m = b) (w : World) : Calls Tryd.prog 69 #[.int .i64 m] w fun e w' => e = .returned (.bool b) ∧ w = w' := by
  have h' : (m == 4) = b := h
  go_enter Tryd.func69, Tryd.ntmps69
  go_wp2
  go_ret
  exact ⟨rfl, rfl⟩
def AllRel {α : Type} (f : α → Bool) (xs : List α) (w : World) (i : Value) (wr : World) : Prop := ∃ k : Nat, k ≤ xs.length ∧ i = .int .i64 (k : Int) ∧ (xs.take k).all f = true ∧ Below w.heap.size w wr
theorem cmp_is {x y c : Int} (h : Pit.cmp x y = c) (w : World) : Calls Tryd.prog 34 #[.int .i64 x, .int .i64 y] w fun e w' => e = .returned (.int .i64 c) ∧ w = w' := by subst h; exact cmp_any x y w
theorem right_is {p : P3} {b : Bool} (h : Evt.rgt p = b) (w : World) (hR : Ready w) : Calls Tryd.prog 72 #[pt p.1 p.2.1 p.2.2] w fun ed w' => ed = .returned (.bool b) ∧ Below w.heap.size w w' := by subst h; exact right_any _ _ _ w hR
theorem compare_is {p q : P3} {c : Int} (h : Evt.cp p q = c) (w : World) (hR : Ready w) : Calls Tryd.prog 74 #[pt p.1 p.2.1 p.2.2, pt q.1 q.2.1 q.2.2] w fun ed w' => ed = .returned (.int .i64 c) ∧ Below w.heap.size w w' := by subst h; exact compare_any _ _ _ _ _ _ w hR

set_option maxRecDepth 100000 in
set_option maxHeartbeats 4000000 in
theorem everyI_mark (v : Value) (xs : List Int) (w : World) (h1 : Ints w v xs) :
    Calls Tryd.prog 66 #[v, .func (.func 67) #[] #[]] w fun ed w' => ed = .returned (.bool (xs.all Evt.markR)) ∧ Below w.heap.size w w' := by
  have HC := Lib.hid h1
  obtain ⟨p1, cap1, rfl, hl1, _, _⟩ := h1
  go_enter Tryd.func66, Tryd.ntmps66
  go_wp2
  go_loopw [9] (fun i wr => AllRel Evt.markR xs w i wr) (fun i _ => xs.length - (intOf i).toNat)
  case atStart => exact ⟨0, Nat.zero_le _, rfl, rfl, Below.refl _ _⟩
  case round =>
    obtain ⟨k, hk, rfl, he, hB⟩ := hrel
    have HE := Lib.hid he
    clear he
    by_cases hlt : k < xs.length
    · obtain ⟨x, hx⟩ : ∃ x, xs[k]? = some x := ⟨_, List.getElem?_eq_getElem hlt⟩
      obtain ⟨b1, o1, e1, hc⟩ := ints_at HC.out hx
      subst e1
      have hc := cell_later hB hc
      have HX := Lib.hid hx
      have hlt' : (k : Int) < (xs.length : Int) := by omega
      clear hx
      cases hf : Evt.markR x
      · have HF := Lib.hid hf
        go_wp2_with (go_at_call 67; refine (isMark_is HF.out _).mono ?_; rintro e w5 ⟨rfl, rfl⟩)
        go_ret
        exact ⟨ret_bool (Evt.all_not HX.out HF.out).symm, hB⟩
      · have HF := Lib.hid hf
        go_wp2_with (go_at_call 67; refine (isMark_is HF.out _).mono ?_; rintro e w5 ⟨rfl, rfl⟩)
        go_roundw
        case rel => exact ⟨k + 1, by omega, by go_num, Evt.all_take HX.out HE.out HF.out, hB⟩
        case measure => simp [intOf]; omega
    · obtain rfl : k = xs.length := by omega
      go_wp2
      go_ret
      exact ⟨ret_bool (by have := HE.out; rw [List.take_length] at this; exact this.symm), hB⟩

set_option maxRecDepth 100000 in
set_option maxHeartbeats 4000000 in
theorem everyI_ferm (v : Value) (xs : List Int) (w : World) (h1 : Ints w v xs) :
    Calls Tryd.prog 66 #[v, .func (.func 69) #[] #[]] w fun ed w' => ed = .returned (.bool (xs.all Evt.ferm)) ∧ Below w.heap.size w w' := by
  have HC := Lib.hid h1
  obtain ⟨p1, cap1, rfl, hl1, _, _⟩ := h1
  go_enter Tryd.func66, Tryd.ntmps66
  go_wp2
  go_loopw [9] (fun i wr => AllRel Evt.ferm xs w i wr) (fun i _ => xs.length - (intOf i).toNat)
  case atStart => exact ⟨0, Nat.zero_le _, rfl, rfl, Below.refl _ _⟩
  case round =>
    obtain ⟨k, hk, rfl, he, hB⟩ := hrel
    have HE := Lib.hid he
    clear he
    by_cases hlt : k < xs.length
    · obtain ⟨x, hx⟩ : ∃ x, xs[k]? = some x := ⟨_, List.getElem?_eq_getElem hlt⟩
      obtain ⟨b1, o1, e1, hc⟩ := ints_at HC.out hx
      subst e1
      have hc := cell_later hB hc
      have HX := Lib.hid hx
      have hlt' : (k : Int) < (xs.length : Int) := by omega
      clear hx
      cases hf : Evt.ferm x
      · have HF := Lib.hid hf
        go_wp2_with (go_at_call 69; refine (isFermata_is HF.out _).mono ?_; rintro e w5 ⟨rfl, rfl⟩)
        go_ret
        exact ⟨ret_bool (Evt.all_not HX.out HF.out).symm, hB⟩
      · have HF := Lib.hid hf
        go_wp2_with (go_at_call 69; refine (isFermata_is HF.out _).mono ?_; rintro e w5 ⟨rfl, rfl⟩)
        go_roundw
        case rel => exact ⟨k + 1, by omega, by go_num, Evt.all_take HX.out HE.out HF.out, hB⟩
        case measure => simp [intOf]; omega
    · obtain rfl : k = xs.length := by omega
      go_wp2
      go_ret
      exact ⟨ret_bool (by have := HE.out; rw [List.take_length] at this; exact this.symm), hB⟩

set_option maxRecDepth 100000 in
set_option maxHeartbeats 4000000 in
theorem everyP_right (v : Value) (xs : List P3) (w : World) (h1 : Pits w v xs) (hR : Ready w) :
    Calls Tryd.prog 71 #[v, .func (.func 72) #[] #[]] w fun ed w' => ed = .returned (.bool (xs.all Evt.rgt)) ∧ Below w.heap.size w w' := by
  have HC := Lib.hid h1
  obtain ⟨p1, cap1, rfl, hl1, _, _⟩ := h1
  go_enter Tryd.func71, Tryd.ntmps71
  go_wp2
  go_loopw [9] (fun i wr => AllRel Evt.rgt xs w i wr) (fun i _ => xs.length - (intOf i).toNat)
  case atStart => exact ⟨0, Nat.zero_le _, rfl, rfl, Below.refl _ _⟩
  case round =>
    obtain ⟨k, hk, rfl, he, hB⟩ := hrel
    have HE := Lib.hid he
    clear he
    by_cases hlt : k < xs.length
    · obtain ⟨x, hx⟩ : ∃ x, xs[k]? = some x := ⟨_, List.getElem?_eq_getElem hlt⟩
      obtain ⟨b1, o1, e1, hc, hc', hc''⟩ := pits_at HC.out hx
      subst e1
      have hc := cell_later hB hc
      have hc' := cell_later hB hc'
      have hc'' := cell_later hB hc''
      have HX := Lib.hid hx
      have hlt' : (k : Int) < (xs.length : Int) := by omega
      clear hx
      obtain ⟨x0, x1, x2⟩ := x
      dsimp only at hc hc' hc''
      cases hf : Evt.rgt (x0, x1, x2)
      · have HF := Lib.hid hf
        have hR' : Ready (wr.alloc (.cells #[.int .i64 x0, .int .i64 x1, .int .i64 x2] 41)) := (hR.below hB).alloc _
        go_wp2_with (go_at_call 72; refine (right_is (p := (x0, x1, x2)) HF.out _ hR').mono ?_; rintro e w5 ⟨rfl, hb5⟩)
        go_ret
        exact ⟨ret_bool (Evt.all_not HX.out HF.out).symm, (hB.trans ((((Below.refl _ _).alloc (Nat.le_refl _) _).trans (hb5.mono (by simp))).mono hB.size))⟩
      · have HF := Lib.hid hf
        have hR' : Ready (wr.alloc (.cells #[.int .i64 x0, .int .i64 x1, .int .i64 x2] 41)) := (hR.below hB).alloc _
        go_wp2_with (go_at_call 72; refine (right_is (p := (x0, x1, x2)) HF.out _ hR').mono ?_; rintro e w5 ⟨rfl, hb5⟩)
        go_roundw
        case rel => exact ⟨k + 1, by omega, by go_num, Evt.all_take HX.out HE.out HF.out, (hB.trans ((((Below.refl _ _).alloc (Nat.le_refl _) _).trans (hb5.mono (by simp))).mono hB.size))⟩
        case measure => simp [intOf]; omega
    · obtain rfl : k = xs.length := by omega
      go_wp2
      go_ret
      exact ⟨ret_bool (by have := HE.out; rw [List.take_length] at this; exact this.symm), hB⟩

def RiseRel {α : Type} (c : α → α → Int) (xs : List α) (w : World) (i : Value) (wr : World) : Prop := ∃ k : Nat, i = .int .i64 ((k : Int) + 1) ∧ k ≤ xs.length ∧ Evt.rise c (xs.take (k + 1)) = true ∧ Below w.heap.size w wr

set_option maxRecDepth 100000 in
set_option maxHeartbeats 4000000 in
theorem risingI (v : Value) (xs : List Int) (w : World) (h1 : Ints w v xs) :
    Calls Tryd.prog 68 #[v, .func (.func 34) #[] #[]] w fun ed w' => ed = .returned (.bool (Evt.rise Pit.cmp xs)) ∧ Below w.heap.size w w' := by
  have HC := Lib.hid h1
  obtain ⟨p1, cap1, rfl, hl1, _, _⟩ := h1
  go_enter Tryd.func68, Tryd.ntmps68
  go_wp2
  go_loopw [5] (fun i wr => RiseRel Pit.cmp xs w i wr) (fun i _ => xs.length + 1 - (intOf i).toNat)
  case atStart => exact ⟨0, rfl, Nat.zero_le _, Evt.rise_one _ _, Below.refl _ _⟩
  case round =>
    obtain ⟨k, rfl, hk, he, hB⟩ := hrel
    have HE := Lib.hid he
    clear he
    by_cases hlt : k + 1 < xs.length
    · obtain ⟨x, hx⟩ : ∃ x, xs[k]? = some x := ⟨_, List.getElem?_eq_getElem (by omega)⟩
      obtain ⟨y, hy⟩ : ∃ y, xs[k + 1]? = some y := ⟨_, List.getElem?_eq_getElem hlt⟩
      obtain ⟨b1, o1, e1, hcx⟩ := ints_at HC.out hx
      obtain ⟨b2, o2, e2, hcy⟩ := ints_at HC.out hy
      subst e1
      cases e2
      have hcx := cell_later hB hcx
      have hcy := cell_later hB hcy
      have HX := Lib.hid hx
      have HY := Lib.hid hy
      clear hx hy
      obtain ⟨cv, HV⟩ : ∃ cv, Hid (Pit.cmp y x = cv) := ⟨_, Lib.hid rfl⟩
      have hlt' : (k : Int) + 1 < (xs.length : Int) := by omega
      have hlt2 : k < xs.length := by omega
      have hlt3 : (k : Int) < (xs.length : Int) := by omega
      have hn0 : 0 ≤ (k : Int) + 1 := by omega
      have hw1 : IntKind.i64.wrap ((k : Int) + 1 - 1) = (k : Int) := by rw [show (k : Int) + 1 - 1 = (k : Int) by omega]; exact IntWalk.i64_in _ (by omega)
      have hn1 : ((k : Int) + 1).toNat = k + 1 := by omega
      by_cases hcv : cv ≤ 0
      · have hd : decide (cv ≤ 0) = true := decide_eq_true hcv
        go_wp2_with fail
        have g_hcx := fun dd os => cell_regrown hcx dd os
        have g_hcy := fun dd os => cell_regrown hcy dd os
        have q0 : Hid (∀ dd os, Calls Tryd.prog 34 #[Value.int .i64 y, .int .i64 x] (Go.Sort.grow (redrawn wr dd) os) fun e w'' => e = .returned (.int .i64 cv) ∧ ∃ p : Regrown, w'' = Go.Sort.grow (redrawn wr p.d) p.os) := Lib.hid (fun dd os => Calls.regrown_of ((cmp_is HV.out (Go.Sort.grow (redrawn wr dd) os)).mono fun _ _ h => ⟨h.1, h.2 ▸ Below.refl _ _⟩))
        refine wp_region_quiet_below (by kernel_rfl) (by kernel_rfl) ?_
        repeat (go_big_quiet_step (first | (go_at_call 34; with_reducible exact q0.out _ _)))
        refine wpQuiet_nil ?_
        intro _ hw'
        obtain ⟨⟨dq, osq⟩, hw''⟩ := hw'
        subst hw''
        replace hcx := g_hcx dq osq
        clear g_hcx
        replace hcy := g_hcy dq osq
        clear g_hcy
        clear q0
        have hb_w5 := below_regrown wr dq osq
        generalize Go.Sort.grow (redrawn wr dq) osq = w5 at *
        go_wp2
        go_ret
        exact ⟨ret_bool (Evt.rise_not HX.out HY.out (by rw [HV.out]; omega)).symm, below_two hB hb_w5⟩
      · have hd : decide (cv ≤ 0) = false := decide_eq_false hcv
        go_wp2_with fail
        have g_hcx := fun dd os => cell_regrown hcx dd os
        have g_hcy := fun dd os => cell_regrown hcy dd os
        have q0 : Hid (∀ dd os, Calls Tryd.prog 34 #[Value.int .i64 y, .int .i64 x] (Go.Sort.grow (redrawn wr dd) os) fun e w'' => e = .returned (.int .i64 cv) ∧ ∃ p : Regrown, w'' = Go.Sort.grow (redrawn wr p.d) p.os) := Lib.hid (fun dd os => Calls.regrown_of ((cmp_is HV.out (Go.Sort.grow (redrawn wr dd) os)).mono fun _ _ h => ⟨h.1, h.2 ▸ Below.refl _ _⟩))
        refine wp_region_quiet_below (by kernel_rfl) (by kernel_rfl) ?_
        repeat (go_big_quiet_step (first | (go_at_call 34; with_reducible exact q0.out _ _)))
        refine wpQuiet_nil ?_
        intro _ hw'
        obtain ⟨⟨dq, osq⟩, hw''⟩ := hw'
        subst hw''
        replace hcx := g_hcx dq osq
        clear g_hcx
        replace hcy := g_hcy dq osq
        clear g_hcy
        clear q0
        have hb_w5 := below_regrown wr dq osq
        generalize Go.Sort.grow (redrawn wr dq) osq = w5 at *
        clear hw1 hn1
        go_wp2
        go_roundw
        case rel => exact ⟨k + 1, by go_num, by omega, Evt.rise_take HX.out HY.out HE.out (by rw [HV.out]; omega), below_two hB hb_w5⟩
        case measure => simp [intOf]; omega
    · have hge : ¬ (k : Int) + 1 < (xs.length : Int) := by omega
      go_wp2
      go_ret
      exact ⟨ret_bool (by have := HE.out; rw [List.take_of_length_le (by omega)] at this; exact this.symm), hB⟩

set_option maxRecDepth 100000 in
set_option maxHeartbeats 4000000 in
theorem risingP (v : Value) (xs : List P3) (w : World) (h1 : Pits w v xs) (hR : Ready w) :
    Calls Tryd.prog 73 #[v, .func (.func 74) #[] #[]] w fun ed w' => ed = .returned (.bool (Evt.rise Evt.cp xs)) ∧ Below w.heap.size w w' := by
  have HC := Lib.hid h1
  obtain ⟨p1, cap1, rfl, hl1, _, _⟩ := h1
  go_enter Tryd.func73, Tryd.ntmps73
  go_wp2
  go_loopw [5] (fun i wr => RiseRel Evt.cp xs w i wr) (fun i _ => xs.length + 1 - (intOf i).toNat)
  case atStart => exact ⟨0, rfl, Nat.zero_le _, Evt.rise_one _ _, Below.refl _ _⟩
  case round =>
    obtain ⟨k, rfl, hk, he, hB⟩ := hrel
    have HE := Lib.hid he
    clear he
    by_cases hlt : k + 1 < xs.length
    · obtain ⟨x, hx⟩ : ∃ x, xs[k]? = some x := ⟨_, List.getElem?_eq_getElem (by omega)⟩
      obtain ⟨y, hy⟩ : ∃ y, xs[k + 1]? = some y := ⟨_, List.getElem?_eq_getElem hlt⟩
      obtain ⟨b1, o1, e1, hcx, hcx', hcx''⟩ := pits_at HC.out hx
      obtain ⟨b2, o2, e2, hcy, hcy', hcy''⟩ := pits_at HC.out hy
      subst e1
      cases e2
      have hcx := cell_later hB hcx
      have hcx' := cell_later hB hcx'
      have hcx'' := cell_later hB hcx''
      have hcy := cell_later hB hcy
      have hcy' := cell_later hB hcy'
      have hcy'' := cell_later hB hcy''
      have HX := Lib.hid hx
      have HY := Lib.hid hy
      clear hx hy
      obtain ⟨x0, x1, x2⟩ := x
      obtain ⟨y0, y1, y2⟩ := y
      dsimp only at hcx hcx' hcx'' hcy hcy' hcy''
      obtain ⟨cv, HV⟩ : ∃ cv, Hid (Evt.cp (y0, y1, y2) (x0, x1, x2) = cv) := ⟨_, Lib.hid rfl⟩
      have hlt' : (k : Int) + 1 < (xs.length : Int) := by omega
      have hlt2 : k < xs.length := by omega
      have hlt3 : (k : Int) < (xs.length : Int) := by omega
      have hn0 : 0 ≤ (k : Int) + 1 := by omega
      have hw1 : IntKind.i64.wrap ((k : Int) + 1 - 1) = (k : Int) := by rw [show (k : Int) + 1 - 1 = (k : Int) by omega]; exact IntWalk.i64_in _ (by omega)
      have hn1 : ((k : Int) + 1).toNat = k + 1 := by omega
      by_cases hcv : cv ≤ 0
      · have hd : decide (cv ≤ 0) = true := decide_eq_true hcv
        go_wp2_with fail
        have g_hcx := fun dd os => cell_regrown hcx dd os
        have g_hcx' := fun dd os => cell_regrown hcx' dd os
        have g_hcx'' := fun dd os => cell_regrown hcx'' dd os
        have g_hcy := fun dd os => cell_regrown hcy dd os
        have g_hcy' := fun dd os => cell_regrown hcy' dd os
        have g_hcy'' := fun dd os => cell_regrown hcy'' dd os
        have q0 : Hid (∀ dd os, Calls Tryd.prog 74 #[pt y0 y1 y2, pt x0 x1 x2] (Go.Sort.grow (redrawn wr dd) os) fun e w'' => e = .returned (.int .i64 cv) ∧ ∃ p : Regrown, w'' = Go.Sort.grow (redrawn wr p.d) p.os) := Lib.hid (fun dd os => Calls.regrown_of (compare_is (p := (y0, y1, y2)) (q := (x0, x1, x2)) HV.out (Go.Sort.grow (redrawn wr dd) os) ((hR.below hB).below (below_regrown _ _ _))))
        refine wp_region_quiet_below (by kernel_rfl) (by kernel_rfl) ?_
        repeat (go_big_quiet_step (first | (go_at_call 74; with_reducible exact q0.out _ _)))
        refine wpQuiet_nil ?_
        intro _ hw'
        obtain ⟨⟨dq, osq⟩, hw''⟩ := hw'
        subst hw''
        replace hcx := g_hcx dq osq
        clear g_hcx
        replace hcx' := g_hcx' dq osq
        clear g_hcx'
        replace hcx'' := g_hcx'' dq osq
        clear g_hcx''
        replace hcy := g_hcy dq osq
        clear g_hcy
        replace hcy' := g_hcy' dq osq
        clear g_hcy'
        replace hcy'' := g_hcy'' dq osq
        clear g_hcy''
        clear q0
        have hb_w5 := below_regrown wr dq osq
        generalize Go.Sort.grow (redrawn wr dq) osq = w5 at *
        go_wp2
        go_ret
        exact ⟨ret_bool (Evt.rise_not HX.out HY.out (by rw [HV.out]; omega)).symm, below_two hB hb_w5⟩
      · have hd : decide (cv ≤ 0) = false := decide_eq_false hcv
        go_wp2_with fail
        have g_hcx := fun dd os => cell_regrown hcx dd os
        have g_hcx' := fun dd os => cell_regrown hcx' dd os
        have g_hcx'' := fun dd os => cell_regrown hcx'' dd os
        have g_hcy := fun dd os => cell_regrown hcy dd os
        have g_hcy' := fun dd os => cell_regrown hcy' dd os
        have g_hcy'' := fun dd os => cell_regrown hcy'' dd os
        have q0 : Hid (∀ dd os, Calls Tryd.prog 74 #[pt y0 y1 y2, pt x0 x1 x2] (Go.Sort.grow (redrawn wr dd) os) fun e w'' => e = .returned (.int .i64 cv) ∧ ∃ p : Regrown, w'' = Go.Sort.grow (redrawn wr p.d) p.os) := Lib.hid (fun dd os => Calls.regrown_of (compare_is (p := (y0, y1, y2)) (q := (x0, x1, x2)) HV.out (Go.Sort.grow (redrawn wr dd) os) ((hR.below hB).below (below_regrown _ _ _))))
        refine wp_region_quiet_below (by kernel_rfl) (by kernel_rfl) ?_
        repeat (go_big_quiet_step (first | (go_at_call 74; with_reducible exact q0.out _ _)))
        refine wpQuiet_nil ?_
        intro _ hw'
        obtain ⟨⟨dq, osq⟩, hw''⟩ := hw'
        subst hw''
        replace hcx := g_hcx dq osq
        clear g_hcx
        replace hcx' := g_hcx' dq osq
        clear g_hcx'
        replace hcx'' := g_hcx'' dq osq
        clear g_hcx''
        replace hcy := g_hcy dq osq
        clear g_hcy
        replace hcy' := g_hcy' dq osq
        clear g_hcy'
        replace hcy'' := g_hcy'' dq osq
        clear g_hcy''
        clear q0
        have hb_w5 := below_regrown wr dq osq
        generalize Go.Sort.grow (redrawn wr dq) osq = w5 at *
        clear hw1 hn1
        go_wp2
        go_roundw
        case rel => exact ⟨k + 1, by go_num, by omega, Evt.rise_take HX.out HY.out HE.out (by rw [HV.out]; omega), below_two hB hb_w5⟩
        case measure => simp [intOf]; omega
    · have hge : ¬ (k : Int) + 1 < (xs.length : Int) := by omega
      go_wp2
      go_ret
      exact ⟨ret_bool (by have := HE.out; rw [List.take_of_length_le (by omega)] at this; exact this.symm), hB⟩

set_option maxRecDepth 100000 in
set_option maxHeartbeats 4000000 in
theorem marksRight_any (v : Value) (xs : List Int) (w : World) (h1 : Ints w v xs) :
    Calls Tryd.prog 44 #[v] w fun ed w' => ed = .returned (.bool (Evt.marksR xs)) ∧ Below w.heap.size w w' := by
  have HC := Lib.hid h1
  obtain ⟨p1, cap1, rfl, hl1, _, _⟩ := h1
  cases hf : xs.all Evt.markR
  · rw [show Evt.marksR xs = false by unfold Evt.marksR; rw [hf]; rfl]
    have HF := Lib.hid hf
    clear hf
    go_enter Tryd.func44, Tryd.ntmps44
    go_wp2_with (go_at_call 66; refine (everyI_mark _ xs _ HC.out).mono ?_; rintro e w1 ⟨rfl, hb⟩; rw [HF.out])
    go_ret
    exact ⟨rfl, hb⟩
  · rw [show Evt.marksR xs = Evt.rise Pit.cmp xs by unfold Evt.marksR; rw [hf]; rfl]
    have HF := Lib.hid hf
    clear hf
    go_enter Tryd.func44, Tryd.ntmps44
    go_wp2_with (first
      | (go_at_call 66; refine (everyI_mark _ xs _ HC.out).mono ?_; rintro e w1 ⟨rfl, hb⟩; rw [HF.out])
      | (go_at_call 68; refine (risingI _ xs _ (HC.out.later hb)).mono ?_; rintro e w2 ⟨rfl, hb2⟩))
    go_ret
    exact ⟨rfl, below_two hb hb2⟩
theorem marksRight_is {v : Value} {xs : List Int} {b : Bool} (h : Evt.marksR xs = b) (w : World) (h1 : Ints w v xs) :
    Calls Tryd.prog 44 #[v] w fun ed w' => ed = .returned (.bool b) ∧ Below w.heap.size w w' := by subst h; exact marksRight_any v xs w h1
end Go.Proofs.YtobhmiknlbjmkaaDoor
