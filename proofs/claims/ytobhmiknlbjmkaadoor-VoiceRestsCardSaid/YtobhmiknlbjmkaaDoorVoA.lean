/-
  The contracts of voice's wrong, led, Check, Same, and of what they call of slices.
-/
import Derived.Test.YtobhmiknlbjmkaaDoorVoMath
import Derived.Test.YtobhmiknlbjmkaaDoorVoEv
import Derived.Deep.CutBlock
import Derived.Deep.DeepCutAuto
namespace Go.Proofs.YtobhmiknlbjmkaaDoor
open Go.RowKit
open Evt (P3 Ev)

theorem eqP_in (q0 q1 q2 x0 x1 x2 : Int) : eqP q0 q1 q2 x0 x1 x2 = decide (((q0, q1, q2) : P3) = (x0, x1, x2)) := by
  rw [Bool.eq_iff_iff, eqP_iff, decide_eq_true_iff]
  constructor
  · rintro ⟨rfl, rfl, rfl⟩; rfl
  · intro h; cases h; exact ⟨rfl, rfl, rfl⟩
def IdxP (l : List P3) (q : P3) (w : World) (e : Ending) (w' : World) : Prop := ∃ n : Int, e = .returned (.int .i64 n) ∧ decide (0 ≤ n) = Voi.inL l q ∧ Below w.heap.size w w'
theorem inL_hit {l : List P3} {k : Nat} {x q : P3} (hx : l[k]? = some x) (h : decide (q = x) = true) : Voi.inL l q = true := by
  rw [Voi.inL_mem, of_decide_eq_true h]; exact List.mem_of_getElem? hx
theorem inL_take {l : List P3} {k : Nat} {x q : P3} (hx : l[k]? = some x) (h : Voi.inL (l.take k) q = false) (hn : decide (q = x) = false) : Voi.inL (l.take (k + 1)) q = false := by
  unfold Voi.inL at *
  rw [take_succ_at hx, List.any_append, h]; simpa using hn

set_option maxRecDepth 100000 in
set_option maxHeartbeats 40000000 in
theorem indexP_any (v : Value) (l : List P3) (q0 q1 q2 : Int) (w : World) (h : Pits w v l) :
    Calls Tryd.prog 83 #[v, pt q0 q1 q2] w (IdxP l (q0, q1, q2) w) := by
  have hgP := guardP
  have heP := eql_pt
  have HC := Lib.hid h
  obtain ⟨p1, c1, rfl, hl⟩ := sl_shape h
  clear h
  have hB0 : Below w.heap.size w w := Below.refl _ _
  go_enter Tryd.func83, Tryd.ntmps83
  go_wp2
  have hs1 : Below w.heap.size w (w.alloc (.cells #[.int .i64 q0, .int .i64 q1, .int .i64 q2] 41)) := by repeat (first | exact Below.refl _ _ | refine Below.alloc ?_ (by simp <;> omega) _)
  have c_q_0 : (w.alloc (.cells #[.int .i64 q0, .int .i64 q1, .int .i64 q2] 41)).cell? ⟨w.heap.size, 0, none⟩ = some (.int .i64 q0) := by go_simp
  have c_q_1 : (w.alloc (.cells #[.int .i64 q0, .int .i64 q1, .int .i64 q2] 41)).cell? ⟨w.heap.size, 1, none⟩ = some (.int .i64 q1) := by go_simp
  have c_q_2 : (w.alloc (.cells #[.int .i64 q0, .int .i64 q1, .int .i64 q2] 41)).cell? ⟨w.heap.size, 2, none⟩ = some (.int .i64 q2) := by go_simp
  have hB1 := below_two hB0 hs1
  clear hB0 hs1
  generalize (w.alloc (.cells #[.int .i64 q0, .int .i64 q1, .int .i64 q2] 41)) = w1 at *
  have z_q := World.block_lt_of_cell? _ _ c_q_0
  go_loopw [8] (fun i wr => ∃ k : Nat, k ≤ l.length ∧ i = .int .i64 (k : Int) ∧ Voi.inL (l.take k) (q0, q1, q2) = false ∧ Below w1.heap.size w1 wr) (fun i _ => l.length - (intOf i).toNat)
  case atStart => exact ⟨0, Nat.zero_le _, rfl, rfl, Below.refl _ _⟩
  case round =>
    obtain ⟨k, hk, rfl, he, hB⟩ := hrel
    have HE := Lib.hid he
    clear he
    by_cases hlt : k < l.length
    · obtain ⟨x, hx⟩ : ∃ x, l[k]? = some x := ⟨_, List.getElem?_eq_getElem hlt⟩
      obtain ⟨b1, o1, e1, hx0, hx1, hx2⟩ := pits_at (HC.out.later (below_two hB1 hB)) hx
      subst e1
      have d_0 := cell_later hB c_q_0
      have d_1 := cell_later hB c_q_1
      have d_2 := cell_later hB c_q_2
      have HX := Lib.hid hx
      have hlt' : (k : Int) < (l.length : Int) := by omega
      clear hx
      obtain ⟨x0, x1, x2⟩ := x
      dsimp only at hx0 hx1 hx2
      cases hE : eqP q0 q1 q2 x0 x1 x2
      · have HQ := Lib.hid ((eqP_in _ _ _ _ _ _).symm.trans hE)
        go_wp2_with fail
        have g_d_0 := fun dd os => cell_regrown d_0 dd os
        have g_d_1 := fun dd os => cell_regrown d_1 dd os
        have g_d_2 := fun dd os => cell_regrown d_2 dd os
        have g_hx0 := fun dd os => cell_regrown hx0 dd os
        have g_hx1 := fun dd os => cell_regrown hx1 dd os
        have g_hx2 := fun dd os => cell_regrown hx2 dd os
        refine wp_region_quiet_below (by kernel_rfl) (by kernel_rfl) ?_
        repeat (go_big_quiet_step (first | fail))
        refine wpQuiet_nil ?_
        intro _ hw'
        obtain ⟨⟨dq, osq⟩, hw''⟩ := hw'
        subst hw''
        replace d_0 := g_d_0 dq osq
        clear g_d_0
        replace d_1 := g_d_1 dq osq
        clear g_d_1
        replace d_2 := g_d_2 dq osq
        clear g_d_2
        replace hx0 := g_hx0 dq osq
        clear g_hx0
        replace hx1 := g_hx1 dq osq
        clear g_hx1
        replace hx2 := g_hx2 dq osq
        clear g_hx2
        have hb_w9 := below_regrown wr dq osq
        generalize Go.Sort.grow (redrawn wr dq) osq = w9 at *
        have hB9 := below_two hB hb_w9
        clear hb_w9
        go_wp2
        go_roundw
        case rel => exact ⟨k + 1, by omega, by go_num, inL_take HX.out HE.out HQ.out, hB9⟩
        case measure => simp [intOf]; omega
      · have HQ := Lib.hid ((eqP_in _ _ _ _ _ _).symm.trans hE)
        go_wp2_with fail
        have g_d_0 := fun dd os => cell_regrown d_0 dd os
        have g_d_1 := fun dd os => cell_regrown d_1 dd os
        have g_d_2 := fun dd os => cell_regrown d_2 dd os
        have g_hx0 := fun dd os => cell_regrown hx0 dd os
        have g_hx1 := fun dd os => cell_regrown hx1 dd os
        have g_hx2 := fun dd os => cell_regrown hx2 dd os
        refine wp_region_quiet_below (by kernel_rfl) (by kernel_rfl) ?_
        repeat (go_big_quiet_step (first | fail))
        refine wpQuiet_nil ?_
        intro _ hw'
        obtain ⟨⟨dq, osq⟩, hw''⟩ := hw'
        subst hw''
        replace d_0 := g_d_0 dq osq
        clear g_d_0
        replace d_1 := g_d_1 dq osq
        clear g_d_1
        replace d_2 := g_d_2 dq osq
        clear g_d_2
        replace hx0 := g_hx0 dq osq
        clear g_hx0
        replace hx1 := g_hx1 dq osq
        clear g_hx1
        replace hx2 := g_hx2 dq osq
        clear g_hx2
        have hb_w9 := below_regrown wr dq osq
        generalize Go.Sort.grow (redrawn wr dq) osq = w9 at *
        have hB9 := below_two hB hb_w9
        clear hb_w9
        go_wp2
        go_ret
        exact ⟨_, rfl, (decide_eq_true (by omega)).trans (inL_hit HX.out HQ.out).symm, below_two hB1 hB9⟩
    · obtain rfl : k = l.length := by omega
      have hge : ¬ (l.length : Int) < (l.length : Int) := by omega
      go_wp2
      go_ret
      exact ⟨_, rfl, by have := HE.out; rw [List.take_length] at this; rw [this]; rfl, below_two hB1 hB⟩

set_option maxRecDepth 100000 in
set_option maxHeartbeats 40000000 in
theorem containsP_is {l : List P3} {q : Bool} {q0 q1 q2 : Int} (hq : Voi.inL l (q0, q1, q2) = q) (v : Value) (w : World) (h : Pits w v l) :
    Calls Tryd.prog 63 #[v, pt q0 q1 q2] w fun ed w' => ed = .returned (.bool q) ∧ Below w.heap.size w w' := by
  have HQ := Lib.hid hq
  have HC := Lib.hid h
  clear hq h
  have hB0 : Below w.heap.size w w := Below.refl _ _
  go_enter Tryd.func63, Tryd.ntmps63
  go_wp2_with fail
  refine (indexP_any v l q0 q1 q2 _ (HC.out.later (by repeat (first | exact Below.refl _ _ | refine Below.alloc ?_ (by simp <;> omega) _)))).mono ?_
  rintro e w1 ⟨n, rfl, hn, hb1⟩
  have hs1 : Below w.heap.size w w1 := Below.trans (by repeat (first | exact Below.refl _ _ | refine Below.alloc ?_ (by simp <;> omega) _)) (hb1.mono (by simp <;> omega))
  have c_q_0 : w1.cell? ⟨w.heap.size, 0, none⟩ = some (.int .i64 q0) := (hb1.cell (by simp <;> omega)).trans (by go_simp)
  have c_q_1 : w1.cell? ⟨w.heap.size, 1, none⟩ = some (.int .i64 q1) := (hb1.cell (by simp <;> omega)).trans (by go_simp)
  have c_q_2 : w1.cell? ⟨w.heap.size, 2, none⟩ = some (.int .i64 q2) := (hb1.cell (by simp <;> omega)).trans (by go_simp)
  have z_q := World.block_lt_of_cell? _ _ c_q_0
  have hB1 := below_two hB0 hs1
  clear hB0 hs1 hb1
  have HN := Lib.hid (hn.trans HQ.out)
  clear hn
  go_wp2
  go_ret
  exact ⟨ret_bool HN.out, hB1⟩

theorem pts_at {x : Ev} {k : Nat} {q : P3} {u : Bool} (hq : x.ps[k]? = some q) (hu : x.ts[k]? = some u) : (Evt.pts x)[k]? = some (q, u) := by unfold Evt.pts; rw [List.getElem?_zip_eq_some]; exact ⟨hq, hu⟩

set_option maxRecDepth 100000 in
set_option maxHeartbeats 40000000 in
theorem led_any (x y : Ev) (vp vt vm up ut um : Value) (w : World) (h0 : EvR w vp vt vm x) (h1 : EvR w up ut um y) (hl : Hid (x.ts.length = x.ps.length)) :
    Calls Tryd.prog 41 #[evv x vp vt vm, evv y up ut um] w fun ed w' => ed = .returned (.bool (Voi.led x y)) ∧ Below w.heap.size w w' := by
  obtain ⟨k, ps, ts, b, d, n, e0, ms, str⟩ := x
  have HX0 := Lib.hid h0
  obtain ⟨Pps, Cps, e1, _⟩ := sl_shape h0.ps
  obtain ⟨Pts, Cts, e2, _⟩ := sl_shape h0.ts
  obtain ⟨Pms, Cms, e3, _⟩ := sl_shape h0.ms
  dsimp only at e1 e2 e3
  subst e1 e2 e3
  clear h0
  obtain ⟨k1, ps1, ts1, b1, d1, n1, e01, ms1, str1⟩ := y
  have HX1 := Lib.hid h1
  obtain ⟨Pps1, Cps1, e1, _⟩ := sl_shape h1.ps
  obtain ⟨Pts1, Cts1, e2, _⟩ := sl_shape h1.ts
  obtain ⟨Pms1, Cms1, e3, _⟩ := sl_shape h1.ms
  dsimp only at e1 e2 e3
  subst e1 e2 e3
  clear h1
  have hB0 : Below w.heap.size w w := Below.refl _ _
  go_enter Tryd.func41, Tryd.ntmps41
  go_wp2
  have hs1 : Below w.heap.size w ((w.alloc (.cells #[.int .i64 k, .slice Pps ps.length Cps, .slice Pts ts.length Cts, .int .i64 b, .int .i64 d, .int .i64 n, .int .i64 e0, .slice Pms ms.length Cms, .string str] 51)).alloc (.cells #[.int .i64 k1, .slice Pps1 ps1.length Cps1, .slice Pts1 ts1.length Cts1, .int .i64 b1, .int .i64 d1, .int .i64 n1, .int .i64 e01, .slice Pms1 ms1.length Cms1, .string str1] 51)) := by repeat (first | exact Below.refl _ _ | refine Below.alloc ?_ (by simp <;> omega) _)
  have c_e_0 : ((w.alloc (.cells #[.int .i64 k, .slice Pps ps.length Cps, .slice Pts ts.length Cts, .int .i64 b, .int .i64 d, .int .i64 n, .int .i64 e0, .slice Pms ms.length Cms, .string str] 51)).alloc (.cells #[.int .i64 k1, .slice Pps1 ps1.length Cps1, .slice Pts1 ts1.length Cts1, .int .i64 b1, .int .i64 d1, .int .i64 n1, .int .i64 e01, .slice Pms1 ms1.length Cms1, .string str1] 51)).cell? ⟨w.heap.size, 0, none⟩ = some (.int .i64 k) := by go_simp
  have c_e_1 : ((w.alloc (.cells #[.int .i64 k, .slice Pps ps.length Cps, .slice Pts ts.length Cts, .int .i64 b, .int .i64 d, .int .i64 n, .int .i64 e0, .slice Pms ms.length Cms, .string str] 51)).alloc (.cells #[.int .i64 k1, .slice Pps1 ps1.length Cps1, .slice Pts1 ts1.length Cts1, .int .i64 b1, .int .i64 d1, .int .i64 n1, .int .i64 e01, .slice Pms1 ms1.length Cms1, .string str1] 51)).cell? ⟨w.heap.size, 1, none⟩ = some (.slice Pps ps.length Cps) := by go_simp
  have c_e_2 : ((w.alloc (.cells #[.int .i64 k, .slice Pps ps.length Cps, .slice Pts ts.length Cts, .int .i64 b, .int .i64 d, .int .i64 n, .int .i64 e0, .slice Pms ms.length Cms, .string str] 51)).alloc (.cells #[.int .i64 k1, .slice Pps1 ps1.length Cps1, .slice Pts1 ts1.length Cts1, .int .i64 b1, .int .i64 d1, .int .i64 n1, .int .i64 e01, .slice Pms1 ms1.length Cms1, .string str1] 51)).cell? ⟨w.heap.size, 2, none⟩ = some (.slice Pts ts.length Cts) := by go_simp
  have c_e_3 : ((w.alloc (.cells #[.int .i64 k, .slice Pps ps.length Cps, .slice Pts ts.length Cts, .int .i64 b, .int .i64 d, .int .i64 n, .int .i64 e0, .slice Pms ms.length Cms, .string str] 51)).alloc (.cells #[.int .i64 k1, .slice Pps1 ps1.length Cps1, .slice Pts1 ts1.length Cts1, .int .i64 b1, .int .i64 d1, .int .i64 n1, .int .i64 e01, .slice Pms1 ms1.length Cms1, .string str1] 51)).cell? ⟨w.heap.size, 3, none⟩ = some (.int .i64 b) := by go_simp
  have c_e_4 : ((w.alloc (.cells #[.int .i64 k, .slice Pps ps.length Cps, .slice Pts ts.length Cts, .int .i64 b, .int .i64 d, .int .i64 n, .int .i64 e0, .slice Pms ms.length Cms, .string str] 51)).alloc (.cells #[.int .i64 k1, .slice Pps1 ps1.length Cps1, .slice Pts1 ts1.length Cts1, .int .i64 b1, .int .i64 d1, .int .i64 n1, .int .i64 e01, .slice Pms1 ms1.length Cms1, .string str1] 51)).cell? ⟨w.heap.size, 4, none⟩ = some (.int .i64 d) := by go_simp
  have c_e_5 : ((w.alloc (.cells #[.int .i64 k, .slice Pps ps.length Cps, .slice Pts ts.length Cts, .int .i64 b, .int .i64 d, .int .i64 n, .int .i64 e0, .slice Pms ms.length Cms, .string str] 51)).alloc (.cells #[.int .i64 k1, .slice Pps1 ps1.length Cps1, .slice Pts1 ts1.length Cts1, .int .i64 b1, .int .i64 d1, .int .i64 n1, .int .i64 e01, .slice Pms1 ms1.length Cms1, .string str1] 51)).cell? ⟨w.heap.size, 5, none⟩ = some (.int .i64 n) := by go_simp
  have c_e_6 : ((w.alloc (.cells #[.int .i64 k, .slice Pps ps.length Cps, .slice Pts ts.length Cts, .int .i64 b, .int .i64 d, .int .i64 n, .int .i64 e0, .slice Pms ms.length Cms, .string str] 51)).alloc (.cells #[.int .i64 k1, .slice Pps1 ps1.length Cps1, .slice Pts1 ts1.length Cts1, .int .i64 b1, .int .i64 d1, .int .i64 n1, .int .i64 e01, .slice Pms1 ms1.length Cms1, .string str1] 51)).cell? ⟨w.heap.size, 6, none⟩ = some (.int .i64 e0) := by go_simp
  have c_e_7 : ((w.alloc (.cells #[.int .i64 k, .slice Pps ps.length Cps, .slice Pts ts.length Cts, .int .i64 b, .int .i64 d, .int .i64 n, .int .i64 e0, .slice Pms ms.length Cms, .string str] 51)).alloc (.cells #[.int .i64 k1, .slice Pps1 ps1.length Cps1, .slice Pts1 ts1.length Cts1, .int .i64 b1, .int .i64 d1, .int .i64 n1, .int .i64 e01, .slice Pms1 ms1.length Cms1, .string str1] 51)).cell? ⟨w.heap.size, 7, none⟩ = some (.slice Pms ms.length Cms) := by go_simp
  have c_e_8 : ((w.alloc (.cells #[.int .i64 k, .slice Pps ps.length Cps, .slice Pts ts.length Cts, .int .i64 b, .int .i64 d, .int .i64 n, .int .i64 e0, .slice Pms ms.length Cms, .string str] 51)).alloc (.cells #[.int .i64 k1, .slice Pps1 ps1.length Cps1, .slice Pts1 ts1.length Cts1, .int .i64 b1, .int .i64 d1, .int .i64 n1, .int .i64 e01, .slice Pms1 ms1.length Cms1, .string str1] 51)).cell? ⟨w.heap.size, 8, none⟩ = some (.string str) := by go_simp
  have c_f_0 : ((w.alloc (.cells #[.int .i64 k, .slice Pps ps.length Cps, .slice Pts ts.length Cts, .int .i64 b, .int .i64 d, .int .i64 n, .int .i64 e0, .slice Pms ms.length Cms, .string str] 51)).alloc (.cells #[.int .i64 k1, .slice Pps1 ps1.length Cps1, .slice Pts1 ts1.length Cts1, .int .i64 b1, .int .i64 d1, .int .i64 n1, .int .i64 e01, .slice Pms1 ms1.length Cms1, .string str1] 51)).cell? ⟨w.heap.size + 1, 0, none⟩ = some (.int .i64 k1) := by go_simp
  have c_f_1 : ((w.alloc (.cells #[.int .i64 k, .slice Pps ps.length Cps, .slice Pts ts.length Cts, .int .i64 b, .int .i64 d, .int .i64 n, .int .i64 e0, .slice Pms ms.length Cms, .string str] 51)).alloc (.cells #[.int .i64 k1, .slice Pps1 ps1.length Cps1, .slice Pts1 ts1.length Cts1, .int .i64 b1, .int .i64 d1, .int .i64 n1, .int .i64 e01, .slice Pms1 ms1.length Cms1, .string str1] 51)).cell? ⟨w.heap.size + 1, 1, none⟩ = some (.slice Pps1 ps1.length Cps1) := by go_simp
  have c_f_2 : ((w.alloc (.cells #[.int .i64 k, .slice Pps ps.length Cps, .slice Pts ts.length Cts, .int .i64 b, .int .i64 d, .int .i64 n, .int .i64 e0, .slice Pms ms.length Cms, .string str] 51)).alloc (.cells #[.int .i64 k1, .slice Pps1 ps1.length Cps1, .slice Pts1 ts1.length Cts1, .int .i64 b1, .int .i64 d1, .int .i64 n1, .int .i64 e01, .slice Pms1 ms1.length Cms1, .string str1] 51)).cell? ⟨w.heap.size + 1, 2, none⟩ = some (.slice Pts1 ts1.length Cts1) := by go_simp
  have c_f_3 : ((w.alloc (.cells #[.int .i64 k, .slice Pps ps.length Cps, .slice Pts ts.length Cts, .int .i64 b, .int .i64 d, .int .i64 n, .int .i64 e0, .slice Pms ms.length Cms, .string str] 51)).alloc (.cells #[.int .i64 k1, .slice Pps1 ps1.length Cps1, .slice Pts1 ts1.length Cts1, .int .i64 b1, .int .i64 d1, .int .i64 n1, .int .i64 e01, .slice Pms1 ms1.length Cms1, .string str1] 51)).cell? ⟨w.heap.size + 1, 3, none⟩ = some (.int .i64 b1) := by go_simp
  have c_f_4 : ((w.alloc (.cells #[.int .i64 k, .slice Pps ps.length Cps, .slice Pts ts.length Cts, .int .i64 b, .int .i64 d, .int .i64 n, .int .i64 e0, .slice Pms ms.length Cms, .string str] 51)).alloc (.cells #[.int .i64 k1, .slice Pps1 ps1.length Cps1, .slice Pts1 ts1.length Cts1, .int .i64 b1, .int .i64 d1, .int .i64 n1, .int .i64 e01, .slice Pms1 ms1.length Cms1, .string str1] 51)).cell? ⟨w.heap.size + 1, 4, none⟩ = some (.int .i64 d1) := by go_simp
  have c_f_5 : ((w.alloc (.cells #[.int .i64 k, .slice Pps ps.length Cps, .slice Pts ts.length Cts, .int .i64 b, .int .i64 d, .int .i64 n, .int .i64 e0, .slice Pms ms.length Cms, .string str] 51)).alloc (.cells #[.int .i64 k1, .slice Pps1 ps1.length Cps1, .slice Pts1 ts1.length Cts1, .int .i64 b1, .int .i64 d1, .int .i64 n1, .int .i64 e01, .slice Pms1 ms1.length Cms1, .string str1] 51)).cell? ⟨w.heap.size + 1, 5, none⟩ = some (.int .i64 n1) := by go_simp
  have c_f_6 : ((w.alloc (.cells #[.int .i64 k, .slice Pps ps.length Cps, .slice Pts ts.length Cts, .int .i64 b, .int .i64 d, .int .i64 n, .int .i64 e0, .slice Pms ms.length Cms, .string str] 51)).alloc (.cells #[.int .i64 k1, .slice Pps1 ps1.length Cps1, .slice Pts1 ts1.length Cts1, .int .i64 b1, .int .i64 d1, .int .i64 n1, .int .i64 e01, .slice Pms1 ms1.length Cms1, .string str1] 51)).cell? ⟨w.heap.size + 1, 6, none⟩ = some (.int .i64 e01) := by go_simp
  have c_f_7 : ((w.alloc (.cells #[.int .i64 k, .slice Pps ps.length Cps, .slice Pts ts.length Cts, .int .i64 b, .int .i64 d, .int .i64 n, .int .i64 e0, .slice Pms ms.length Cms, .string str] 51)).alloc (.cells #[.int .i64 k1, .slice Pps1 ps1.length Cps1, .slice Pts1 ts1.length Cts1, .int .i64 b1, .int .i64 d1, .int .i64 n1, .int .i64 e01, .slice Pms1 ms1.length Cms1, .string str1] 51)).cell? ⟨w.heap.size + 1, 7, none⟩ = some (.slice Pms1 ms1.length Cms1) := by go_simp
  have c_f_8 : ((w.alloc (.cells #[.int .i64 k, .slice Pps ps.length Cps, .slice Pts ts.length Cts, .int .i64 b, .int .i64 d, .int .i64 n, .int .i64 e0, .slice Pms ms.length Cms, .string str] 51)).alloc (.cells #[.int .i64 k1, .slice Pps1 ps1.length Cps1, .slice Pts1 ts1.length Cts1, .int .i64 b1, .int .i64 d1, .int .i64 n1, .int .i64 e01, .slice Pms1 ms1.length Cms1, .string str1] 51)).cell? ⟨w.heap.size + 1, 8, none⟩ = some (.string str1) := by go_simp
  have hB1 := below_two hB0 hs1
  clear hB0 hs1
  generalize ((w.alloc (.cells #[.int .i64 k, .slice Pps ps.length Cps, .slice Pts ts.length Cts, .int .i64 b, .int .i64 d, .int .i64 n, .int .i64 e0, .slice Pms ms.length Cms, .string str] 51)).alloc (.cells #[.int .i64 k1, .slice Pps1 ps1.length Cps1, .slice Pts1 ts1.length Cts1, .int .i64 b1, .int .i64 d1, .int .i64 n1, .int .i64 e01, .slice Pms1 ms1.length Cms1, .string str1] 51)) = w1 at *
  have z_e : w.heap.size < _ := World.block_lt_of_cell? _ _ c_e_0
  have z_f : w.heap.size + 1 < _ := World.block_lt_of_cell? _ _ c_f_0
  go_loopw [10] (fun i wr => ∃ j : Nat, j ≤ ps.length ∧ i = .int .i64 (j : Int) ∧ ((Evt.pts ⟨k, ps, ts, b, d, n, e0, ms, str⟩).take j).all (fun q => !q.2 || Voi.inL ps1 q.1) = true ∧ Below w1.heap.size w1 wr) (fun i _ => ps.length - (intOf i).toNat)
  case atStart => exact ⟨0, Nat.zero_le _, rfl, rfl, Below.refl _ _⟩
  case round =>
    obtain ⟨j, hj, rfl, he, hB⟩ := hrel
    have HE := Lib.hid he
    clear he
    have hBw := below_two hB1 hB
    have hTL : ts.length = ps.length := hl.out
    by_cases hlt : j < ps.length
    · obtain ⟨x, hx⟩ : ∃ x, ps[j]? = some x := ⟨_, List.getElem?_eq_getElem hlt⟩
      obtain ⟨tk, ht⟩ : ∃ y, ts[j]? = some y := ⟨_, List.getElem?_eq_getElem (by omega)⟩
      obtain ⟨bp, op, ex, hx0, hx1, hx2⟩ := pits_at (HX0.out.later hBw).ps hx
      cases ex
      obtain ⟨bt, ot, et, ht0⟩ := bools_at (HX0.out.later hBw).ts ht
      cases et
      have HX := Lib.hid (pts_at (x := ⟨k, ps, ts, b, d, n, e0, ms, str⟩) hx ht)
      clear hx ht
      obtain ⟨x0, x1, x2⟩ := x
      dsimp only at hx0 hx1 hx2
      have d_e_2 := cell_later hB c_e_2
      have d_f_1 := cell_later hB c_f_1
      have zd2 : w.heap.size < wr.heap.size := World.block_lt_of_cell? _ _ d_e_2
      have zd1 : w.heap.size + 1 < wr.heap.size := World.block_lt_of_cell? _ _ d_f_1
      have zt : bt < wr.heap.size := World.block_lt_of_cell? _ _ ht0
      have hltI : (j : Int) < (ps.length : Int) := by omega
      have hltT : (j : Int) < (ts.length : Int) := by omega
      have hltT2 : j < ts.length := by omega
      clear hTL
      cases tk
      · go_wp2
        go_roundw
        case rel => exact ⟨j + 1, by omega, by go_num, Evt.all_take HX.out HE.out rfl, hB.alloc hB.size _⟩
        case measure => simp [intOf]; omega
      · cases hq : Voi.inL ps1 (x0, x1, x2)
        · go_wp2_with fail
          refine (containsP_is hq _ _ ((HX1.out.later hBw).ps.later (Below.alloc (Below.refl _ _) (Nat.le_refl _) _))).mono ?_
          rintro e w9 ⟨rfl, hb9⟩
          have HQ := Lib.hid hq
          clear hq
          go_wp2
          go_ret
          exact ⟨ret_bool (by unfold Voi.led; rw [Evt.all_not HX.out (by rw [HQ.out]; rfl)]), below_two (hBw.alloc hBw.size _) hb9⟩
        · go_wp2_with fail
          refine (containsP_is hq _ _ ((HX1.out.later hBw).ps.later (Below.alloc (Below.refl _ _) (Nat.le_refl _) _))).mono ?_
          rintro e w9 ⟨rfl, hb9⟩
          have HQ := Lib.hid hq
          clear hq
          go_wp2
          go_roundw
          case rel => exact ⟨j + 1, by omega, by go_num, Evt.all_take HX.out HE.out (by rw [HQ.out]; rfl), below_two (hB.alloc hB.size _) hb9⟩
          case measure => simp [intOf]; omega
    · clear hTL
      have hPL : (Evt.pts ⟨k, ps, ts, b, d, n, e0, ms, str⟩).take j = Evt.pts ⟨k, ps, ts, b, d, n, e0, ms, str⟩ := List.take_of_length_le (by unfold Evt.pts; rw [List.length_zip]; dsimp only; omega)
      have hge : ¬ (j : Int) < (ps.length : Int) := by omega
      go_wp2
      go_ret
      exact ⟨ret_bool (by have := HE.out; rw [hPL] at this; unfold Voi.led; exact this.symm), hBw⟩

theorem led_is {x y : Ev} {q : Bool} (hq : Voi.led x y = q) (hl : x.ts.length = x.ps.length) (vp vt vm up ut um : Value) (w : World) (h0 : EvR w vp vt vm x) (h1 : EvR w up ut um y) : Calls Tryd.prog 41 #[evv x vp vt vm, evv y up ut um] w fun ed w' => ed = .returned (.bool q) ∧ Below w.heap.size w w' := by subst hq; exact led_any x y _ _ _ _ _ _ w h0 h1 (Lib.hid hl)
end Go.Proofs.YtobhmiknlbjmkaaDoor
