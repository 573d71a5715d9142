/-
  The iterator over a voice's events with their places: voice.spans and its closure.
-/
import Derived.Test.YtobhmiknlbjmkaaDoorVoRg
import Derived.Test.YtobhmiknlbjmkaaDoorVoD
import Derived.RangeFuncBound
import Derived.RangeFuncCalls
import Derived.Shelf.Abstract
import Derived.Shelf.RegionOpen
import Derived.OwnWalkIn
import Derived.TacticsInMore
import Derived.LoopNIn
import Derived.LoopIn
namespace Go.Proofs.YtobhmiknlbjmkaaDoor
open Go.RowKit Go.Shelf
attribute [local go_sem] Oper.semAt_some
open Evt (P3 Ev)
open Voi (R2 Sp Turns Lays Mine)

theorem cell_of_cells {W : World} {g j : Nat} {cur : Array Value} {e : TypeId} {v : Value} (h : W.heap[g]? = some (.cells cur e (0, 0))) (hc : cur[j]? = some v) : W.cell? ⟨g, j, none⟩ = some v := by
  unfold World.cell?
  simp [h, hc]
/-- What lies in memory between two rounds of the iterator, which keeps its place in block O. -/
structure SpRel (w0 : World) (b M O B : Nat) (v : Value) (ys : List EM) (J : Nat → Nat → Nat → World → Prop) (N k : Nat) (f : R2) (W : World) : Prop where
  inv : J M N k W
  mn : M ≤ N
  nw : N ≤ W.heap.size
  bo : b ≤ O
  om : O < M
  c0 : W.cell? ⟨O, 0, none⟩ = some (.int .i64 f.1)
  c1 : W.cell? ⟨O, 1, none⟩ = some (.int .i64 f.2)
  f0 : W.frozen? ⟨O, 0, none⟩ = false
  f1 : W.frozen? ⟨O, 1, none⟩ = false
  bx : W.heap[B]? = some (.cells #[v] 26 (0, 0))
  be : Below w0.heap.size w0 W
theorem SpRel.step {w0 : World} {b M O B N k : Nat} {v : Value} {ys : List EM} {J : Nat → Nat → Nat → World → Prop} {f : R2} {x y : Int} {W W6 W7 : World} (h : SpRel w0 b M O B v ys J N k f W) (hw : w0.heap.size ≤ W.heap.size) (hnB : w0.heap.size ≤ b) (hBb : B < b) (hb : Below W.heap.size W W6)
    (hJ : J M W7.heap.size (k + 1) W7) (hA : ∀ M N k A B, J M N k A → Turns (Mine b M N) A B → J M N k B) (hL : Lays (fun j => (j < w0.heap.size ∨ j = B) ∨ Mine b M N j) W6 W7) :
    SpRel w0 b M O B v ys J W7.heap.size (k + 1) (x, y) ((W7.setCell ⟨O, 0, none⟩ (.int .i64 x)).setCell ⟨O, 1, none⟩ (.int .i64 y)) := by
  have z1 := hb.size
  have z2 := hL.size
  have hin : Mine b M W7.heap.size O := .inl ⟨h.bo, h.om⟩
  have hK : (O < w0.heap.size ∨ O = B) ∨ Mine b M N O := .inr (.inl ⟨h.bo, h.om⟩)
  have d0 := hL.cell (cell_later hb h.c0) hK
  have d1 := hL.cell (cell_later hb h.c1) hK
  have g0 := hL.frozen (cell_later hb h.c0) (frozen_later hb h.c0 h.f0) hK
  have g1 := hL.frozen (cell_later hb h.c1) (frozen_later hb h.c1 h.f1) hK
  have zO : O < W7.heap.size := World.block_lt_of_cell? _ _ d0
  refine ⟨hA _ _ _ _ _ (hA _ _ _ _ _ hJ (Turns.set _ _ hin)) (Turns.set _ _ hin), ?_, by simp, h.bo, h.om, set_beside (by decide) (set_same (held_of d0)), set_same (set_held (held_of d1)), set_frozen (set_frozen g0), set_frozen (set_frozen g1), ?_, ?_⟩
  · have := h.mn; have := h.nw; omega
  · have hne : B ≠ O := fun e => by have := h.bo; omega
    rw [Below.heap_setCell _ _ _ _ hne, Below.heap_setCell _ _ _ _ hne]
    exact hL.at ((hb.block B (Array.getElem?_eq_some_iff.1 h.bx).1).trans h.bx) (.inl (.inr rfl))
  · exact ((h.be.trans (hb.mono hw)).trans (hL.below (fun j hj => .inl (.inl hj)) (by omega))).setCell (show _ ≤ O by have := h.bo; omega) _ |>.setCell (show _ ≤ O by have := h.bo; omega) _

theorem spn_err {ys : List EM} (h : (Voi.chk (ys.map Prod.fst)).2 ≠ 0) : Voi.spn ys = [Sp.zero (Voi.chk (ys.map Prod.fst)).2] := by unfold Voi.spn; rw [if_neg h]
theorem spn_ok {ys : List EM} (h : (Voi.chk (ys.map Prod.fst)).2 = 0) : Voi.spn ys = Voi.run 0 (0, 1) ys := by unfold Voi.spn; rw [if_pos h]
theorem drop_head {α : Type} {l : List α} {k : Nat} {x : α} {t : List α} (h : l.drop k = x :: t) : l[k]? = some x ∧ l.drop (k + 1) = t := by
  have h1 : (l.drop k)[0]? = some x := by rw [h]; rfl
  have h2 : (l.drop k).drop 1 = t := by rw [h]; rfl
  rw [List.getElem?_drop, Nat.add_zero] at h1
  rw [List.drop_drop] at h2
  exact ⟨h1, h2⟩
theorem drop_one {α : Type} {l : List α} {k : Nat} {x : α} (h : l.drop k = [x]) : l[k]? = some x ∧ l.length = k + 1 := by
  have h1 := congrArg List.length h
  rw [List.length_drop] at h1
  simp at h1
  exact ⟨(drop_head h).1, by omega⟩
theorem drop_nil {α : Type} {l : List α} {k : Nat} (h : l.drop k = []) (hk : k ≤ l.length) : l.length = k := by
  have h1 := congrArg List.length h
  rw [List.length_drop] at h1
  simp at h1
  omega

set_option maxRecDepth 100000 in
set_option maxHeartbeats 40000000 in
theorem spans1_in (fu : Nat) (hn : 1 ≤ fu) (l B : Nat) (v : Value) (ys : List EM) (w0 : World) (h : Evs w0 v ys) (hR : Ready w0) (J Jx : Nat → Nat → Nat → World → Prop) (W : World) (hbe : Below w0.heap.size w0 W) (hB2 : B < W.heap.size) (hbx : W.heap[B]? = some (.cells #[v] 26 (0, 0)))
    (hA : ∀ M N k A B, J M N k A → Turns (Mine W.heap.size M N) A B → J M N k B)
    (hS : ∀ W', Below W.heap.size W W' → J W'.heap.size W'.heap.size 0 W')
    (hY : ∀ M N k x W1, J M N k W1 → M ≤ N → N ≤ W1.heap.size → (Voi.spn ys)[k]? = some x → YieldAt Fence.wide (fu - 1) Tryd.prog l (Voi.encS x) W1 fun e W' =>
      (e = .returned (.bool true) ∧ J M W'.heap.size (k + 1) W' ∧ Lays (fun j => (j < w0.heap.size ∨ j = B) ∨ Mine W.heap.size M N j) W1 W') ∨ (e = .returned (.bool false) ∧ Jx M W'.heap.size (k + 1) W')) :
    CallsIn Fence.wide fu Tryd.prog 51 #[.func (.yield l) #[] #[], .pointer (some ⟨B, 0, none⟩)] W fun e W' => (∃ v, e = .returned v) ∧ ((∃ M N, J M N (Voi.spn ys).length W') ∨ (∃ M N k, Jx M N k W')) := by
  have HC := Lib.hid h
  obtain ⟨p0, c0, rfl, hl0⟩ := sl_shape h.row
  have HBX := Lib.hid hbx
  have c_v : W.cell? ⟨B, 0, none⟩ = some (.slice p0 ys.length c0) := cell_of_cells hbx rfl
  clear h hbx
  have zW := hbe.size
  have HR := Lib.hid hR
  clear hR
  have hR' := HR.out.below hbe
  have HEV := Lib.hid (HC.out.later hbe)
  obtain ⟨⟨q, E⟩, hq⟩ : ∃ z, Voi.chk (ys.map Prod.fst) = z := ⟨_, rfl⟩
  have HQ := Lib.hid hq
  clear hq
  have HCK := Lib.hid (fun w (h : Evs w _ ys) (hR : Ready w) => check_is HQ.out (.slice p0 ys.length c0) w h hR)
  refine callsIn_of_wp Tryd.func51 rfl trivial ?_ rfl
  simp only [Tryd.ntmps51, List.size_toArray, List.length_cons, List.length_nil, Nat.reduceAdd, Nat.reduceSub, Array.replicate_succ, Array.replicate_zero, List.push_toArray, List.append_toArray, List.nil_append, List.cons_append]
  gi_wp2_with fail
  refine ⟨trivial, ?_⟩
  refine (callsIn_wide.2 (HCK.out _ HEV.out hR')).mono ?_
  rintro e W2 ⟨rfl, hb2⟩
  clear HCK HEV hR'
  by_cases hE : E = 0
  case neg =>
    have hne : (E != 0) = true := by simpa using hE
    have HX : Hid (Voi.spn ys = [Sp.zero E]) := Lib.hid (by have := spn_err (ys := ys) (by rw [HQ.out]; exact hE); rw [HQ.out] at this; exact this)
    have hJ2 := hS W2 hb2
    obtain ⟨fn, tmps, assign, body, hy, hRd⟩ := hY _ _ 0 (Sp.zero E) _ hJ2 (Nat.le_refl _) (Nat.le_refl _) (by rw [HX.out]; rfl)
    replace hy : (Instr.yield l #[.agg #[.int .i64 0, .int .i64 0, .slice none 0 0, .slice none 0 0, .int .i64 0, .int .i64 0, .int .i64 0, .int .i64 0, .slice none 0 0, .string ⟨#[]⟩, .int .i64 0, .int .i64 0, .int .i64 0, .int .i64 0], .int .i64 E]).run Tryd.prog W2 = .ok (.round l fn tmps assign body) W2 := hy
    clear hE
    gi_wp2
    refine hRd.mono ?_
    rintro e W5 (⟨rfl, hJ5, _⟩ | ⟨rfl, hJx5⟩)
    · gi_wp2
      refine bodyPost_ret (results_none rfl _ _ _) rfl ?_
      exact ⟨⟨_, rfl⟩, .inl ⟨_, _, by rw [HX.out]; exact hJ5⟩⟩
    · gi_wp2
      refine bodyPost_ret (results_none rfl _ _ _) rfl ?_
      exact ⟨⟨_, rfl⟩, .inr ⟨_, _, _, hJx5⟩⟩
  case pos =>
  subst hE
  have HX : Hid (Voi.spn ys = Voi.run 0 (0, 1) ys) := Lib.hid (spn_ok (by rw [HQ.out]))
  have HRT : Hid (∀ y ∈ ys, Evt.right y.1 = true) := Lib.hid (fun y hy => List.all_eq_true.1 (Voi.chk_ok_iff (l := ys.map Prod.fst) (by rw [HQ.out])).2.2.1 _ (List.mem_map.2 ⟨_, hy, rfl⟩))
  gi_wp2_with fail
  refine ⟨trivial, ?_⟩
  refine (callsIn_wide.2 (beginning_is _)).mono ?_
  rintro e W3 ⟨rfl, hb3⟩
  have hb3' := below_two hb2 hb3
  have c_v3 := cell_later hb3' c_v
  have hbx3 := (hb3'.block B hB2).trans HBX.out
  have z3 := hb3'.size
  clear c_v hb2 hb3
  have hb4 : Below W.heap.size W (W3.alloc (.cells #[.int .i64 0, .int .i64 1] 36)) := hb3'.alloc z3 _
  have hrel0 : SpRel w0 W.heap.size (W3.alloc (.cells #[.int .i64 0, .int .i64 1] 36)).heap.size W3.heap.size B (.slice p0 ys.length c0) ys J (W3.alloc (.cells #[.int .i64 0, .int .i64 1] 36)).heap.size 0 (0, 1) (W3.alloc (.cells #[.int .i64 0, .int .i64 1] 36)) :=
    ⟨hS _ hb4, Nat.le_refl _, Nat.le_refl _, z3, by simp, by go_simp, by go_simp, by go_simp, by go_simp, (Below.heap_alloc _ _ _ (by omega)).trans hbx3, hbe.trans (hb4.mono zW)⟩
  generalize hM : (W3.alloc (.cells #[.int .i64 0, .int .i64 1] 36)).heap.size = M at hrel0
  generalize hO : W3.heap.size = O at hrel0
  have HREL := Lib.hid hrel0
  have zB3 : B < O := by omega
  clear hrel0 hb4 hbx3
  gi_wp2
  gi_loopw [27] (fun i wr => ∃ (k N : Nat) (f : R2), k ≤ ys.length ∧ i = .int .i64 (k : Int) ∧ Hid (SpRel w0 W.heap.size M O B (.slice p0 ys.length c0) ys J N k f wr) ∧ (Voi.spn ys).drop k = Voi.run k f (ys.drop k) ∧ k ≤ (Voi.spn ys).length)
    (fun i _ => ys.length - (intOf i).toNat)
  case atStart => exact ⟨0, _, _, Nat.zero_le _, rfl, HREL, by rw [HX.out]; rfl, Nat.zero_le _⟩
  case round =>
    clear HREL
    obtain ⟨k, N, f, hk, rfl, HREL, hrun, hkl⟩ := hrel
    have HRN := Lib.hid hrun
    clear hrun
    have hBw := HREL.out.be
    have HBE := Lib.hid hBw
    by_cases hlt : k < ys.length
    · have hltI : (k : Int) < (ys.length : Int) := by omega
      obtain ⟨y, hy⟩ : ∃ y, ys[k]? = some y := ⟨_, List.getElem?_eq_getElem (by omega)⟩
      have hyR := HC.out.each y (List.mem_of_getElem? hy)
      obtain ⟨p1, c1, p2, c2, p3, c3, hys⟩ := evs_shape hyR
      have hat := evs_at HC.out hy
      generalize y.1 = x at *
      subst hys
      obtain ⟨kd, ps, ts, b, d, n, e0, ms, str⟩ := x
      obtain ⟨b1, o1, e1, hc0, hc1, hc2, hc3, hc4, hc5, hc6, hc7, hc8⟩ := hat
      cases e1
      dsimp only at hyR hc0 hc1 hc2 hc3 hc4 hc5 hc6 hc7 hc8
      have HY := Lib.hid hy
      have HYR := Lib.hid hyR
      clear hy hyR
      replace hc0 := cell_later hBw hc0
      replace hc1 := cell_later hBw hc1
      replace hc2 := cell_later hBw hc2
      replace hc3 := cell_later hBw hc3
      replace hc4 := cell_later hBw hc4
      replace hc5 := cell_later hBw hc5
      replace hc6 := cell_later hBw hc6
      replace hc7 := cell_later hBw hc7
      replace hc8 := cell_later hBw hc8
      have hrt := HRT.out _ (List.mem_of_getElem? HY.out)
      dsimp only at hrt
      have HQR : Hid (Evt.right (⟨kd, ps, ts, b, d, n, e0, ms, str⟩ : Ev) = true) := Lib.hid hrt
      clear hrt
      obtain ⟨LN, hLN⟩ : ∃ z, Val.lenN b d n e0 = z := ⟨_, rfl⟩
      obtain ⟨LD, hLD⟩ : ∃ z, Val.lenD b d n e0 = z := ⟨_, rfl⟩
      obtain ⟨LE, hLE⟩ : ∃ z, Val.lenE b d n e0 = z := ⟨_, rfl⟩
      have HLN := Lib.hid hLN
      have HLD := Lib.hid hLD
      have HLE := Lib.hid hLE
      clear hLN hLD hLE
      obtain ⟨f0, f1⟩ := f
      obtain ⟨⟨⟨X, Y⟩, E2⟩, hadd⟩ : ∃ z, Voi.addR (f0, f1) (LN, LD) = z := ⟨_, rfl⟩
      have HAD := Lib.hid hadd
      have HCT : Hid (∀ w : World, Calls Tryd.prog 15 #[rt f0 f1, rt LN LD] w fun e w' => e = .returned (rv X Y E2) ∧ Below w.heap.size w w') := Lib.hid (fun w => by
        have h := add_any f0 f1 LN LD w
        have e1' : Voi.addR (f0, f1) (LN, LD) = ((X, Y), E2) := HAD.out
        unfold Voi.addR at e1'
        have e2 := Prod.mk.inj e1'
        have e3 := Prod.mk.inj e2.1
        dsimp only at e2 e3
        rw [e2.2, e3.1, e3.2] at h
        exact h)
      clear hadd
      have HLR : Hid (Voi.lnR (⟨kd, ps, ts, b, d, n, e0, ms, str⟩ : Ev) = (LN, LD)) := Lib.hid (by unfold Voi.lnR; dsimp only; rw [HLN.out, HLD.out])
      have zr := hBw.size
      have zb1 : b1 < wr.heap.size := World.block_lt_of_cell? _ _ hc0
      have hbA : Below wr.heap.size wr (wr.alloc (.cells #[.int .i64 kd, .slice p1 ps.length c1, .slice p2 ts.length c2, .int .i64 b, .int .i64 d, .int .i64 n, .int .i64 e0, .slice p3 ms.length c3, .string str] 51)) := (Below.refl _ _).alloc (Nat.le_refl _) _
      gi_wp2_with fail
      refine ⟨trivial, ?_⟩
      refine (callsIn_wide.2 (elength_yes (⟨kd, ps, ts, b, d, n, e0, ms, str⟩ : Ev) _ _ _ _ LN LD LE (HYR.out.later (hBw.trans (hbA.mono zr))) ((HR.out.below hBw).below hbA) HQR.out HLN HLD HLE)).mono ?_
      rintro e W4 ⟨rfl, hb4⟩
      have hbr4 := below_two hbA hb4
      have z4 := hbr4.size
      have zE4 : wr.heap.size < W4.heap.size := by have := hb4.size; simp at this; omega
      have q0 := cell_later hbr4 HREL.out.c0
      have q1 := cell_later hbr4 HREL.out.c1
      dsimp only at q0 q1
      have zO4 : O < W4.heap.size := World.block_lt_of_cell? _ _ q0
      have ee0 : W4.cell? ⟨wr.heap.size, 0, none⟩ = some (.int .i64 kd) := (hb4.cell (p := ⟨wr.heap.size, 0, none⟩) (by simp)).trans (by go_simp)
      have ee1 : W4.cell? ⟨wr.heap.size, 1, none⟩ = some (.slice p1 ps.length c1) := (hb4.cell (p := ⟨wr.heap.size, 1, none⟩) (by simp)).trans (by go_simp)
      have ee2 : W4.cell? ⟨wr.heap.size, 2, none⟩ = some (.slice p2 ts.length c2) := (hb4.cell (p := ⟨wr.heap.size, 2, none⟩) (by simp)).trans (by go_simp)
      have ee3 : W4.cell? ⟨wr.heap.size, 3, none⟩ = some (.int .i64 b) := (hb4.cell (p := ⟨wr.heap.size, 3, none⟩) (by simp)).trans (by go_simp)
      have ee4 : W4.cell? ⟨wr.heap.size, 4, none⟩ = some (.int .i64 d) := (hb4.cell (p := ⟨wr.heap.size, 4, none⟩) (by simp)).trans (by go_simp)
      have ee5 : W4.cell? ⟨wr.heap.size, 5, none⟩ = some (.int .i64 n) := (hb4.cell (p := ⟨wr.heap.size, 5, none⟩) (by simp)).trans (by go_simp)
      have ee6 : W4.cell? ⟨wr.heap.size, 6, none⟩ = some (.int .i64 e0) := (hb4.cell (p := ⟨wr.heap.size, 6, none⟩) (by simp)).trans (by go_simp)
      have ee7 : W4.cell? ⟨wr.heap.size, 7, none⟩ = some (.slice p3 ms.length c3) := (hb4.cell (p := ⟨wr.heap.size, 7, none⟩) (by simp)).trans (by go_simp)
      have ee8 : W4.cell? ⟨wr.heap.size, 8, none⟩ = some (.string str) := (hb4.cell (p := ⟨wr.heap.size, 8, none⟩) (by simp)).trans (by go_simp)
      clear hc0 hc1 hc2 hc3 hc4 hc5 hc6 hc7 hc8 hbA hb4 HQR
      gi_wp2_with fail
      refine ⟨trivial, ?_⟩
      refine (callsIn_wide.2 (HCT.out _)).mono ?_
      rintro e W5 ⟨rfl, hb5⟩
      have hb45 : Below W4.heap.size W4 W5 := below_two ((Below.refl _ _).alloc (Nat.le_refl _) _) hb5
      have hbr5 := below_two hbr4 hb45
      have z5 := hbr5.size
      replace q0 := cell_later hb45 q0
      replace q1 := cell_later hb45 q1
      have zO5 : O < W5.heap.size := World.block_lt_of_cell? _ _ q0
      replace ee0 := cell_later hb45 ee0
      replace ee1 := cell_later hb45 ee1
      replace ee2 := cell_later hb45 ee2
      replace ee3 := cell_later hb45 ee3
      replace ee4 := cell_later hb45 ee4
      replace ee5 := cell_later hb45 ee5
      replace ee6 := cell_later hb45 ee6
      replace ee7 := cell_later hb45 ee7
      replace ee8 := cell_later hb45 ee8
      have zE5 : wr.heap.size < W5.heap.size := World.block_lt_of_cell? _ _ ee0
      have hbr6 : Below wr.heap.size wr (W5.alloc (.cells #[.int .i64 X, .int .i64 Y] 36)) := hbr5.alloc z5 _
      have hJ6 := hA _ _ _ _ _ HREL.out.inv (Turns.of_below hbr6)
      have HB6 := Lib.hid hbr6
      clear hb5 hb45 hbr4 hbr5 hbr6 HCT
      by_cases hE2 : E2 = 0
      case neg =>
        have hne : (E2 != 0) = true := by simpa using hE2
        have hd0 : (Voi.spn ys).drop k = [Sp.zero E2] := by
          rw [HRN.out, Voi.run_stop (k := k) HY.out (by dsimp only; rw [HLR.out, HAD.out]; exact hE2)]
          dsimp only
          rw [HLR.out, HAD.out]
        have HD := Lib.hid (drop_one hd0)
        clear hd0
        obtain ⟨fn, tmps, assign, body, hy, hRd⟩ := hY _ _ k _ _ hJ6 HREL.out.mn (Nat.le_trans HREL.out.nw HB6.out.size) HD.out.1
        replace hy : (Instr.yield l #[.agg #[.int .i64 0, .int .i64 0, .slice none 0 0, .slice none 0 0, .int .i64 0, .int .i64 0, .int .i64 0, .int .i64 0, .slice none 0 0, .string ⟨#[]⟩, .int .i64 0, .int .i64 0, .int .i64 0, .int .i64 0], .int .i64 E2]).run Tryd.prog (W5.alloc (.cells #[.int .i64 X, .int .i64 Y] 36)) = .ok (.round l fn tmps assign body) (W5.alloc (.cells #[.int .i64 X, .int .i64 Y] 36)) := hy
        clear hE2
        gi_wp2
        refine hRd.mono ?_
        rintro e W7 (⟨rfl, hJ7, _⟩ | ⟨rfl, hJx7⟩)
        · gi_wp2
          refine bodyPost_ret (results_none rfl _ _ _) rfl ?_
          exact ⟨⟨_, rfl⟩, .inl ⟨_, _, by rw [HD.out.2]; exact hJ7⟩⟩
        · gi_wp2
          refine bodyPost_ret (results_none rfl _ _ _) rfl ?_
          exact ⟨⟨_, rfl⟩, .inr ⟨_, _, _, hJx7⟩⟩
      case pos =>
      subst hE2
      have hd0 : (Voi.spn ys).drop k = (⟨(k : Int), ((⟨kd, ps, ts, b, d, n, e0, ms, str⟩ : Ev), Value.slice p1 ps.length c1, Value.slice p2 ts.length c2, Value.slice p3 ms.length c3), (f0, f1), (X, Y), 0⟩ : Sp) :: Voi.run (k + 1) (X, Y) (ys.drop (k + 1)) := by
        rw [HRN.out, Voi.run_step (k := k) HY.out (by dsimp only; rw [HLR.out, HAD.out])]
        dsimp only
        rw [HLR.out, HAD.out]
      have HD := Lib.hid (drop_head hd0)
      clear hd0
      obtain ⟨fn, tmps, assign, body, hy, hRd⟩ := hY _ _ k _ _ hJ6 HREL.out.mn (Nat.le_trans HREL.out.nw HB6.out.size) HD.out.1
      dsimp only [Voi.encS] at hy
      gi_wp2
      refine hRd.mono ?_
      rintro e W7 (⟨rfl, hJ7, hL7⟩ | ⟨rfl, hJx7⟩)
      · have hin : ∀ j, N ≤ j → (j < w0.heap.size ∨ j = B) ∨ Mine W.heap.size M N j := fun j hj => .inr (.inr hj)
        have hOin : (O < w0.heap.size ∨ O = B) ∨ Mine W.heap.size M N O := .inr (.inl ⟨HREL.out.bo, HREL.out.om⟩)
        have zN : N ≤ W5.heap.size := Nat.le_trans HREL.out.nw z5
        have t0 : W7.cell? ⟨W5.heap.size, 0, none⟩ = some (.int .i64 X) := hL7.cell (by go_simp) (hin _ zN)
        have t1 : W7.cell? ⟨W5.heap.size, 1, none⟩ = some (.int .i64 Y) := hL7.cell (by go_simp) (hin _ zN)
        have r0 : W7.cell? ⟨O, 0, none⟩ = some (.int .i64 f0) := hL7.cell (alloc_cell q0) hOin
        have r1 : W7.cell? ⟨O, 1, none⟩ = some (.int .i64 f1) := hL7.cell (alloc_cell q1) hOin
        have g0 : W7.frozen? ⟨O, 0, none⟩ = false := hL7.frozen (alloc_cell q0) (frozen_later HB6.out HREL.out.c0 HREL.out.f0) hOin
        have g1 : W7.frozen? ⟨O, 1, none⟩ = false := hL7.frozen (alloc_cell q1) (frozen_later HB6.out HREL.out.c1 HREL.out.f1) hOin
        have HST := Lib.hid (HREL.out.step (x := X) (y := Y) zr zW hB2 HB6.out hJ7 hA hL7)
        clear hJ7 hL7
        gi_wp2
        go_roundw
        case rel => exact ⟨k + 1, _, (X, Y), by omega, by go_num, HST, HD.out.2, by have := (List.getElem?_eq_some_iff.1 HD.out.1).1; omega⟩
        case measure => simp [intOf]; omega
      · gi_wp2
        refine bodyPost_ret (results_none rfl _ _ _) rfl ?_
        exact ⟨⟨_, rfl⟩, .inr ⟨_, _, _, hJx7⟩⟩
    · obtain rfl : k = ys.length := by omega
      have hge : ¬ (ys.length : Int) < (ys.length : Int) := by omega
      have hlen := drop_nil (by rw [HRN.out, Voi.run_end (Nat.le_refl _)]) hkl
      have hJ := HREL.out.inv
      rw [← hlen] at hJ
      clear hlen
      gi_wp2
      go_end0
      exact ⟨⟨_, rfl⟩, .inl ⟨_, _, hJ⟩⟩

theorem spans_feeds (fu : Nat) (hn : 1 ≤ fu) (B : Nat) (v : Value) (ys : List EM) (w0 w : World) (h : Evs w0 v ys) (hR : Ready w0) (hbe : Below w0.heap.size w0 w) (hbx : w.heap[B]? = some (.cells #[v] 26 (0, 0))) :
    Voi.Feeds Fence.wide fu Tryd.prog 51 #[.pointer (some ⟨B, 0, none⟩)] Voi.encS (Voi.spn ys) (fun j => j < w0.heap.size ∨ j = B) w := fun l J Jx W hW hA _ hS hY =>
  spans1_in fu hn l B v ys w0 h hR J Jx W (hbe.trans (hW.mono hbe.size)) (Nat.lt_of_lt_of_le (Array.getElem?_eq_some_iff.1 hbx).1 hW.size) ((hW.block B (Array.getElem?_eq_some_iff.1 hbx).1).trans hbx) hA hS hY
theorem spansF_any (v : Value) (w : World) :
    Calls Tryd.prog 27 #[.agg #[v]] w fun e w' => e = .returned (.func (.func 51) #[] #[.pointer (some ⟨w.heap.size, 0, none⟩)]) ∧ w' = w.alloc (.cells #[v] 26) := by
  go_enter Tryd.func27, Tryd.ntmps27
  go_wp2
  go_ret
  exact ⟨rfl, rfl⟩
end Go.Proofs.YtobhmiknlbjmkaaDoor
