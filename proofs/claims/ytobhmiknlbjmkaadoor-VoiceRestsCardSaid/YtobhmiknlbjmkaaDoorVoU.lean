/-
  The contract of voice.At: a range over the events with their places.
-/
import Derived.Test.YtobhmiknlbjmkaaDoorVoT
namespace Go.Proofs.YtobhmiknlbjmkaaDoor
open Go.RowKit Go.Shelf
attribute [local go_sem] Oper.semAt_some
open Evt (P3 Ev)
open Voi (R2 Sp Turns Lays Mine)

namespace Voi
def cmpR (a b : R2) : Int := cmpV (Rat.right a.1 a.2 && Rat.right b.1 b.2) (a.1 * b.2 - b.1 * a.2)
/-- Does a place lie within an event? -/
def inSp (a : R2) (x : Sp) : Bool := decide (cmpR x.fr a ≤ 0) && decide (cmpR a x.tt < 0)
def atOf (a : R2) : Int × Bool → List Sp → Int × Bool
  | g, [] => g
  | g, x :: l => if x.er = 0 then atOf a (if inSp a x then (x.num, true) else g) l else (0, false)
theorem atOf_go {a : R2} {g : Int × Bool} {l : List Sp} {k : Nat} {x : Sp} (h : l[k]? = some x) (he : x.er = 0) : atOf a g (l.drop k) = atOf a (if inSp a x then (x.num, true) else g) (l.drop (k + 1)) := by
  obtain ⟨hk, rfl⟩ := List.getElem?_eq_some_iff.1 h
  rw [List.drop_eq_getElem_cons hk, atOf, if_pos he]
theorem atOf_stop {a : R2} {g : Int × Bool} {l : List Sp} {k : Nat} {x : Sp} (h : l[k]? = some x) (he : x.er ≠ 0) : atOf a g (l.drop k) = (0, false) := by
  obtain ⟨hk, rfl⟩ := List.getElem?_eq_some_iff.1 h
  rw [List.drop_eq_getElem_cons hk, atOf, if_neg he]
end Voi
theorem news4 (w : World) (a b c d : Obj) : ((((w.alloc a).alloc b).alloc c).alloc d).heap[w.heap.size]? = some a ∧ ((((w.alloc a).alloc b).alloc c).alloc d).heap[w.heap.size + 1]? = some b ∧ ((((w.alloc a).alloc b).alloc c).alloc d).heap[w.heap.size + 1 + 1]? = some c ∧ ((((w.alloc a).alloc b).alloc c).alloc d).heap[w.heap.size + 1 + 1 + 1]? = some d :=
  ⟨block_old (news3 w a b c).1, block_old (news3 w a b c).2.1, block_old (news3 w a b c).2.2, by have := block_new (((w.alloc a).alloc b).alloc c) d; rwa [World.size_alloc, World.size_alloc, World.size_alloc] at this⟩
/-- The memory of At between two rounds. -/
structure AtI (w : World) (b R A0 : Nat) (a : R2) (g : Int × Bool) (N : Nat) (W : World) : Prop where
  a : W.heap[R + 1]? = some (.cells #[.int .i64 a.1, .int .i64 a.2] 36 (0, 0))
  r : W.heap[R + 1 + 1]? = some (.cells #[.int .i64 0] 3 (0, 0))
  e : W.heap[R + 1 + 1 + 1]? = some (.cells #[.bool false] 4 (0, 0))
  f : W.heap[A0]? = some (.cells #[.int .i64 g.1] 3 (0, 0))
  k : W.heap[A0 + 1]? = some (.cells #[.bool g.2] 4 (0, 0))
  be : Below w.heap.size w W
  bN : b ≤ N
structure AtX (w : World) (b R : Nat) (N : Nat) (W : World) : Prop where
  r : W.heap[R + 1 + 1]? = some (.cells #[.int .i64 0] 3 (0, 0))
  e : W.heap[R + 1 + 1 + 1]? = some (.cells #[.bool false] 4 (0, 0))
  be : Below w.heap.size w W
  bN : b ≤ N
theorem AtI.turn {w : World} {b R A0 M N : Nat} {a : R2} {g : Int × Bool} {A B : World} (h : AtI w b R A0 a g N A) (ht : Turns (Mine b M N) A B) (hR : R + 3 < b) (hE : A0 + 1 < b) (hw : w.heap.size ≤ b) : AtI w b R A0 a g N B :=
  ⟨ht.own h.a (by omega) h.bN, ht.own h.r (by omega) h.bN, ht.own h.e (by omega) h.bN, ht.own h.f (by omega) h.bN, ht.own h.k hE h.bN, Turns.below' h.be ht hw h.bN h.be.size, h.bN⟩
theorem AtI.grow {w : World} {b R A0 N N' : Nat} {a : R2} {g : Int × Bool} {A : World} (h : AtI w b R A0 a g N A) (hn : b ≤ N') : AtI w b R A0 a g N' A := ⟨h.a, h.r, h.e, h.f, h.k, h.be, hn⟩
theorem AtX.turn {w : World} {b R M N : Nat} {A B : World} (h : AtX w b R N A) (ht : Turns (Mine b M N) A B) (hR : R + 3 < b) (hw : w.heap.size ≤ b) : AtX w b R N B :=
  ⟨ht.own h.r (by omega) h.bN, ht.own h.e hR h.bN, Turns.below' h.be ht hw h.bN h.be.size, h.bN⟩

set_option maxRecDepth 100000 in
set_option maxHeartbeats 40000000 in
theorem vat_no (v : Value) (ys : List EM) (a0 a1 : Int) (w : World) (h : Evs w v ys) (hR : Ready w) (hq : Rat.right a0 a1 = false) :
    Calls Tryd.prog 17 #[.agg #[v], rt a0 a1] w fun ed w' => ed = .returned (.tuple #[.int .i64 0, .bool false]) ∧ Below w.heap.size w w' := by
  have HC := Lib.hid h
  obtain ⟨p0, c0, rfl, hl0⟩ := sl_shape h.row
  clear h
  have HR := Lib.hid hR
  clear hR
  have HRA := Lib.hid (fun w => (by have := ratio_right a0 a1 w; rw [hq] at this; exact this : Calls Tryd.prog 33 #[rt a0 a1] w fun e w' => e = .returned (.bool false) ∧ Below w.heap.size w w'))
  clear hq
  go_enter Tryd.func17, Tryd.ntmps17
  go_wp2_with fail
  refine (HRA.out _).mono ?_
  rintro e W2 ⟨rfl, hb2⟩
  have hb02 : Below w.heap.size w ((((w.alloc (.cells #[.slice p0 ys.length c0] 26)).alloc (.cells #[.int .i64 a0, .int .i64 a1] 36)).alloc (.cells #[.int .i64 0] 3)).alloc (.cells #[.bool false] 4)) := by repeat (first | exact Below.refl _ _ | refine Below.alloc ?_ (by simp <;> omega) _)
  have hbw2 := below_two hb02 hb2
  obtain ⟨t0, t1, t2, t3⟩ := news4 w (.cells #[.slice p0 ys.length c0] 26) (.cells #[.int .i64 a0, .int .i64 a1] 36) (.cells #[.int .i64 0] 3) (.cells #[.bool false] 4)
  have b0 := (hb2.block _ (by simp <;> omega)).trans t0
  have b1 := (hb2.block _ (by simp <;> omega)).trans t1
  have b2 := (hb2.block _ (by simp <;> omega)).trans t2
  have b3 := (hb2.block _ (by simp <;> omega)).trans t3
  have z2 : w.heap.size + 4 ≤ W2.heap.size := by have := hb2.size; simp at this; omega
  have zw2 : w.heap.size < W2.heap.size := by omega
  have zw3 : w.heap.size + 1 < W2.heap.size := by omega
  have zw4 : w.heap.size + 1 + 1 < W2.heap.size := by omega
  have zw5 : w.heap.size + 1 + 1 + 1 < W2.heap.size := by omega
  have cv : W2.cell? ⟨w.heap.size, 0, none⟩ = some (.slice p0 ys.length c0) := cell_of_cells b0 rfl
  have c0 := cell_of_cells b2 (j := 0) rfl
  have c1 := cell_of_cells b3 (j := 0) rfl
  have g0 := frozen_of_cells b2 (j := 0)
  have g1 := frozen_of_cells b3 (j := 0)
  have B2 := Lib.hid b2
  have B3 := Lib.hid b3
  clear hb02 hb2 t0 t1 t2 t3 b0 b1 b2 b3 HR HC
  go_wp2
  have d0 := cell_of_cells (cells_set1 (x := .int .i64 0) B2.out) (j := 0) rfl
  refine bodyPost_ret (v := .tuple #[.int .i64 0, .bool false]) (by simp [results, Tryd.results17, go_sem, d0, c1]) rfl ⟨rfl, set1_below (set1_below hbw2 (by omega)) (by omega)⟩

set_option maxRecDepth 100000 in
set_option maxHeartbeats 40000000 in
theorem vat_yes (v : Value) (ys : List EM) (a0 a1 : Int) (w : World) (h : Evs w v ys) (hR : Ready w) (hq : Rat.right a0 a1 = true) :
    Calls Tryd.prog 17 #[.agg #[v], rt a0 a1] w fun ed w' => ed = .returned (.tuple #[.int .i64 (Voi.atOf (a0, a1) (0, false) (Voi.spn ys)).1, .bool (Voi.atOf (a0, a1) (0, false) (Voi.spn ys)).2]) ∧ Below w.heap.size w w' := by
  have HC := Lib.hid h
  obtain ⟨p0, c0, rfl, hl0⟩ := sl_shape h.row
  clear h
  have HR := Lib.hid hR
  clear hR
  have HRA := Lib.hid (fun w => (by have := ratio_right a0 a1 w; rw [hq] at this; exact this : Calls Tryd.prog 33 #[rt a0 a1] w fun e w' => e = .returned (.bool true) ∧ Below w.heap.size w w'))
  clear hq
  refine (callsIn_wide (n := 3)).1 ?_
  refine callsIn_of_wp_marks Tryd.func17 rfl trivial ?_ rfl
  simp only [Tryd.ntmps17, List.size_toArray, List.length_cons, List.length_nil, Nat.reduceAdd, Nat.reduceSub, Array.replicate_succ, Array.replicate_zero, List.push_toArray, List.append_toArray, List.nil_append, List.cons_append]
  gi_wp2_with fail
  refine ⟨trivial, ?_⟩
  refine (callsIn_wide.2 (HRA.out _)).mono ?_
  rintro e W2 ⟨rfl, hb2⟩
  have hb02 : Below w.heap.size w ((((w.alloc (.cells #[.slice p0 ys.length c0] 26)).alloc (.cells #[.int .i64 a0, .int .i64 a1] 36)).alloc (.cells #[.int .i64 0] 3)).alloc (.cells #[.bool false] 4)) := by repeat (first | exact Below.refl _ _ | refine Below.alloc ?_ (by simp <;> omega) _)
  have hbw2 := below_two hb02 hb2
  obtain ⟨t0, t1, t2, t3⟩ := news4 w (.cells #[.slice p0 ys.length c0] 26) (.cells #[.int .i64 a0, .int .i64 a1] 36) (.cells #[.int .i64 0] 3) (.cells #[.bool false] 4)
  have b0 := (hb2.block _ (by simp <;> omega)).trans t0
  have b1 := (hb2.block _ (by simp <;> omega)).trans t1
  have b2 := (hb2.block _ (by simp <;> omega)).trans t2
  have b3 := (hb2.block _ (by simp <;> omega)).trans t3
  have z2 : w.heap.size + 4 ≤ W2.heap.size := by have := hb2.size; simp at this; omega
  have zw2 : w.heap.size < W2.heap.size := by omega
  have zw3 : w.heap.size + 1 < W2.heap.size := by omega
  have zw4 : w.heap.size + 1 + 1 < W2.heap.size := by omega
  have zw5 : w.heap.size + 1 + 1 + 1 < W2.heap.size := by omega
  have cv : W2.cell? ⟨w.heap.size, 0, none⟩ = some (.slice p0 ys.length c0) := cell_of_cells b0 rfl
  have B1 := Lib.hid b1
  have B2 := Lib.hid b2
  have B3 := Lib.hid b3
  clear hb02 hb2 t0 t1 t2 t3 b0 b1 b2 b3
  gi_wp2_with (refine ⟨trivial, ?_⟩; gi_at_call 27; refine (callsIn_wide.2 (spansF_any _ _)).mono ?_; rintro e w' ⟨rfl, rfl⟩)
  have hb0 : Below W2.heap.size W2 (((W2.alloc (.cells #[.int .i64 0] 3)).alloc (.cells #[.bool false] 4)).alloc (.cells #[.slice p0 ys.length c0] 26)) := by repeat (first | exact Below.refl _ _ | refine Below.alloc ?_ (by simp <;> omega) _)
  have hBw : Below w.heap.size w (((W2.alloc (.cells #[.int .i64 0] 3)).alloc (.cells #[.bool false] 4)).alloc (.cells #[.slice p0 ys.length c0] 26)) := below_two hbw2 hb0
  obtain ⟨u0, u1, u2⟩ := news3 W2 (.cells #[.int .i64 0] 3) (.cells #[.bool false] 4) (.cells #[.slice p0 ys.length c0] 26)
  have hsz : (((W2.alloc (.cells #[.int .i64 0] 3)).alloc (.cells #[.bool false] 4)).alloc (.cells #[.slice p0 ys.length c0] 26)).heap.size = W2.heap.size + 3 := by simp
  have HI : Hid (AtI w (W2.heap.size + 3) w.heap.size W2.heap.size (a0, a1) (0, false) (W2.heap.size + 3) (((W2.alloc (.cells #[.int .i64 0] 3)).alloc (.cells #[.bool false] 4)).alloc (.cells #[.slice p0 ys.length c0] 26))) := Lib.hid ⟨block_old (block_old (block_old B1.out)), block_old (block_old (block_old B2.out)), block_old (block_old (block_old B3.out)), u0, u1, hBw, Nat.le_refl _⟩
  clear cv hb0 u0 u1 B1 B2 B3 HRA
  generalize (((W2.alloc (.cells #[.int .i64 0] 3)).alloc (.cells #[.bool false] 4)).alloc (.cells #[.slice p0 ys.length c0] 26)) = W0 at *
  refine Voi.wpIn_rangeFunc_feeds rfl (by omega) (gf := 51) (lb := #[.pointer (some ⟨W2.heap.size + 1 + 1, 0, none⟩)]) rfl trivial (enters_of Tryd.func51 (by kernel_rfl) rfl)
    (spans_feeds (3 - 1) (by omega) (W2.heap.size + 1 + 1) _ ys w W0 HC.out HR.out hBw u2) (Below.refl _ _) (fun _ => rfl) (fun k hk => by rcases hk with h | h <;> omega)
    (fun M N k W => ∃ g, AtI w W0.heap.size w.heap.size W2.heap.size (a0, a1) g N W ∧ Voi.atOf (a0, a1) (0, false) (Voi.spn ys) = Voi.atOf (a0, a1) g ((Voi.spn ys).drop k))
    (fun M N k W => AtX w W0.heap.size w.heap.size N W ∧ Voi.atOf (a0, a1) (0, false) (Voi.spn ys) = (0, false))
    (fun M N k A B h ht => by obtain ⟨g, h1, h2⟩ := h; exact ⟨g, h1.turn ht (by omega) (by omega) (by omega), h2⟩)
    (fun M N k A B h ht => by obtain ⟨h1, h2⟩ := h; exact ⟨h1.turn ht (by omega) (by omega), h2⟩)
    (fun W' hW hz => ⟨(0, false), by
      have hi := HI.out
      exact ⟨(hW.block _ (by omega)).trans hi.a, (hW.block _ (by omega)).trans hi.r, (hW.block _ (by omega)).trans hi.e, (hW.block _ (by omega)).trans hi.f, (hW.block _ (by omega)).trans hi.k, below_two hBw hW, by omega⟩, rfl⟩) ?round ?done ?stop
  case round =>
    rintro l M N k x W ⟨g, hI, hg⟩ hx hM hMN hNW
    have HI := Lib.hid hI
    have HG := Lib.hid hg
    have HX := Lib.hid hx
    clear hI hg hx
    have zb := HI.out.bN
    obtain ⟨ev, q1, n1, d1, q2, n2, d2, q3, n3, d3, hy⟩ := spn_shape HC.out (List.mem_of_getElem? HX.out)
    obtain ⟨num, y, ⟨f0, f1⟩, ⟨x0, x1⟩, er⟩ := x
    dsimp only at hy
    subst hy
    dsimp only [Voi.encS]
    gi_wp2
    refine ⟨Lays.of_below ((Below.refl _ _).alloc (Nat.le_refl _) _), fun W'' hT hs => ?_⟩
    have SB := Lib.hid (hT.at (block_new W _) (fun e => by omega))
    have hI2 : AtI w W0.heap.size w.heap.size W2.heap.size (a0, a1) g N W'' := (HI.out.turn (M := M) (Turns.of_below ((Below.refl _ _).alloc (Nat.le_refl _) _)) (by omega) (by omega) (by omega)).turn hT.mine (by omega) (by omega) (by omega)
    have H2 := Lib.hid hI2
    have k0 := cell_of_cells hI2.a (j := 0) rfl
    have k1 := cell_of_cells hI2.a (j := 1) rfl
    have k2 := cell_of_cells hI2.r (j := 0) rfl
    have k3 := cell_of_cells hI2.e (j := 0) rfl
    have k4 := cell_of_cells hI2.f (j := 0) rfl
    have k5 := cell_of_cells hI2.k (j := 0) rfl
    have g2 := frozen_of_cells hI2.r (j := 0)
    have g3 := frozen_of_cells hI2.e (j := 0)
    have g4 := frozen_of_cells hI2.f (j := 0)
    have g5 := frozen_of_cells hI2.k (j := 0)
    have s0 := cell_of_cells SB.out (j := 10) rfl
    have s1 := cell_of_cells SB.out (j := 11) rfl
    have s2 := cell_of_cells SB.out (j := 12) rfl
    have s3 := cell_of_cells SB.out (j := 13) rfl
    have s4 := cell_of_cells SB.out (j := 0) rfl
    have zs : W2.heap.size < W.heap.size := by omega
    have zs1 : W2.heap.size + 1 < W.heap.size := by omega
    have zsr1 : w.heap.size + 1 < W.heap.size := by omega
    have zsr2 : w.heap.size + 1 + 1 < W.heap.size := by omega
    have zsr3 : w.heap.size + 1 + 1 + 1 < W.heap.size := by omega
    have zW := lt_of_block SB.out
    dsimp only at k0 k1
    clear hI2 hs hT
    by_cases he : er = 0
    · subst he
      obtain ⟨cA, hcA⟩ : ∃ z, Voi.cmpR (f0, f1) (a0, a1) = z := ⟨_, rfl⟩
      obtain ⟨cB, hcB⟩ : ∃ z, Voi.cmpR (a0, a1) (x0, x1) = z := ⟨_, rfl⟩
      have HA := Lib.hid hcA
      have HB := Lib.hid hcB
      have HCA := Lib.hid (fun w => (by have := rt_compare_any f0 f1 a0 a1 w; unfold Voi.cmpR at hcA; dsimp only at hcA; rw [hcA] at this; exact this : Calls Tryd.prog 16 #[rt f0 f1, rt a0 a1] w fun e w' => e = .returned (.int .i64 cA) ∧ Below w.heap.size w w'))
      have HCB := Lib.hid (fun w => (by have := rt_compare_any a0 a1 x0 x1 w; unfold Voi.cmpR at hcB; dsimp only at hcB; rw [hcB] at this; exact this : Calls Tryd.prog 16 #[rt a0 a1, rt x0 x1] w fun e w' => e = .returned (.int .i64 cB) ∧ Below w.heap.size w w'))
      clear hcA hcB
      gi_wp2_with fail
      refine ⟨trivial, ?_⟩
      refine (CallsIn.inRound l (callsIn_wide.2 (HCA.out _))).mono ?_
      rintro e W5 ⟨rfl, hb5⟩
      replace g2 := frozen_later hb5 k2 g2
      replace g3 := frozen_later hb5 k3 g3
      replace g4 := frozen_later hb5 k4 g4
      replace g5 := frozen_later hb5 k5 g5
      replace k0 := cell_later hb5 k0
      replace k1 := cell_later hb5 k1
      replace k2 := cell_later hb5 k2
      replace k3 := cell_later hb5 k3
      replace k4 := cell_later hb5 k4
      replace k5 := cell_later hb5 k5
      replace s0 := cell_later hb5 s0
      replace s1 := cell_later hb5 s1
      replace s2 := cell_later hb5 s2
      replace s3 := cell_later hb5 s3
      replace s4 := cell_later hb5 s4
      have zW5 : W.heap.size < W5.heap.size := Nat.lt_of_lt_of_le zW hb5.size
      by_cases hA1 : cA ≤ 0
      case neg =>
        have HA1 := Lib.hid hA1
        gi_wp2_with fail
        refine ⟨trivial, ?_⟩
        gi_wp2
        refine ⟨Lays.of_below hb5, g, (H2.out.turn (M := M) (Turns.of_below hb5) (by omega) (by omega) (by omega)).grow (by omega), HG.out.trans ((Voi.atOf_go HX.out rfl).trans ?_)⟩
        have : Voi.inSp (a0, a1) ⟨num, (ev, Value.slice q1 n1 d1, Value.slice q2 n2 d2, Value.slice q3 n3 d3), (f0, f1), (x0, x1), 0⟩ = false := by unfold Voi.inSp; dsimp only; rw [HA.out, decide_eq_false (p := cA ≤ 0) (by have := HA1.out; omega)]; rfl
        rw [this]
        rfl
      case pos =>
      gi_wp2_with fail
      refine ⟨trivial, ?_⟩
      refine (CallsIn.inRound l (callsIn_wide.2 (HCB.out _))).mono ?_
      rintro e W6 ⟨rfl, hb6⟩
      replace g2 := frozen_later hb6 k2 g2
      replace g3 := frozen_later hb6 k3 g3
      replace g4 := frozen_later hb6 k4 g4
      replace g5 := frozen_later hb6 k5 g5
      replace k0 := cell_later hb6 k0
      replace k1 := cell_later hb6 k1
      replace k2 := cell_later hb6 k2
      replace k3 := cell_later hb6 k3
      replace k4 := cell_later hb6 k4
      replace k5 := cell_later hb6 k5
      replace s0 := cell_later hb6 s0
      replace s1 := cell_later hb6 s1
      replace s2 := cell_later hb6 s2
      replace s3 := cell_later hb6 s3
      replace s4 := cell_later hb6 s4
      have hb56 := below_two hb5 hb6
      have zW6 : W.heap.size < W6.heap.size := Nat.lt_of_lt_of_le zW5 hb6.size
      have H6 := Lib.hid (H2.out.turn (M := M) (Turns.of_below hb56) (by omega) (by omega) (by omega))
      have HIS : Hid (Voi.inSp (a0, a1) ⟨num, (ev, Value.slice q1 n1 d1, Value.slice q2 n2 d2, Value.slice q3 n3 d3), (f0, f1), (x0, x1), 0⟩ = decide (cB < 0)) := Lib.hid (by unfold Voi.inSp; dsimp only; rw [HA.out, HB.out, decide_eq_true hA1]; rfl)
      by_cases hB1 : cB < 0
      · have HB1 := Lib.hid hB1
        gi_wp2
        have hne : ∀ j, (j < w.heap.size ∨ j = W2.heap.size + 1 + 1) ∨ Mine W0.heap.size M N j → j ≠ W2.heap.size ∧ j ≠ W2.heap.size + 1 := fun j hj => by rcases hj with (h | h) | h | h <;> omega
        refine ⟨(Lays.of_below hb56).trans ((Lays.set _ _ (fun h => (hne _ h).1 rfl)).trans (Lays.set _ _ (fun h => (hne _ h).2 rfl))), (num, true), ⟨?_, ?_, ?_, ?_, ?_, ?_, ?_⟩, HG.out.trans ((Voi.atOf_go HX.out rfl).trans (by rw [HIS.out, decide_eq_true HB1.out]; rfl))⟩
        · exact block_far (block_far H6.out.a (by omega)) (by omega)
        · exact block_far (block_far H6.out.r (by omega)) (by omega)
        · exact block_far (block_far H6.out.e (by omega)) (by omega)
        · exact block_far (cells_set1 H6.out.f) (by omega)
        · exact cells_set1 (block_far H6.out.k (by omega))
        · exact set1_below (set1_below H6.out.be (by omega)) (by omega)
        · simp; omega
      · have HB1 := Lib.hid hB1
        gi_wp2
        refine ⟨Lays.of_below hb56, g, H6.out.grow (by omega), HG.out.trans ((Voi.atOf_go HX.out rfl).trans ?_)⟩
        rw [HIS.out, decide_eq_false (p := cB < 0) (by have := HB1.out; omega)]
        rfl
    · have hne : (er != 0) = true := by simpa using he
      have HE := Lib.hid he
      clear he
      gi_wp2
      have hne : ∀ j, (j < w.heap.size ∨ j = W2.heap.size + 1 + 1) ∨ Mine W0.heap.size M N j → j ≠ w.heap.size + 1 + 1 ∧ j ≠ w.heap.size + 1 + 1 + 1 := fun j hj => by rcases hj with (h | h) | h | h <;> omega
      refine ⟨(Lays.set _ _ (fun h => (hne _ h).1 rfl)).trans (Lays.set _ _ (fun h => (hne _ h).2 rfl)), ⟨?_, ?_, ?_, ?_⟩, HG.out.trans (Voi.atOf_stop HX.out HE.out)⟩
      · exact block_far (cells_set1 H2.out.r) (by omega)
      · exact cells_set1 (block_far H2.out.e (by omega))
      · exact set1_below (set1_below H2.out.be (by omega)) (by omega)
      · simp; omega
  case done =>
    rintro D M N W ⟨hD, _⟩ ⟨g, hI, hg⟩ hK
    obtain ⟨ga, gb⟩ := g
    have hl : Voi.atOf (a0, a1) (0, false) (Voi.spn ys) = (ga, gb) := by rw [hg, List.drop_length]; rfl
    have k2 := cell_of_cells hI.r (j := 0) rfl
    have k3 := cell_of_cells hI.e (j := 0) rfl
    have k4 := cell_of_cells hI.f (j := 0) rfl
    have k5 := cell_of_cells hI.k (j := 0) rfl
    have g2 := frozen_of_cells hI.r (j := 0)
    have g3 := frozen_of_cells hI.e (j := 0)
    dsimp only at k4 k5
    have HI := Lib.hid hI
    have HL := Lib.hid hl
    clear hI hl hg
    gi_wp2_with fail
    have j2 := cell_drew k2
    have j3 := cell_drew k3
    have j4 := cell_drew k4
    have j5 := cell_drew k5
    have i2 : W.drew.frozen? ⟨w.heap.size + 1 + 1, 0, none⟩ = false := g2
    have i3 : W.drew.frozen? ⟨w.heap.size + 1 + 1 + 1, 0, none⟩ = false := g3
    gi_region
    gi_wp2
    have hK' : ((W.setCell ⟨w.heap.size + 1 + 1, 0, none⟩ (.int .i64 ga)).setCell ⟨w.heap.size + 1 + 1 + 1, 0, none⟩ (.bool gb)).drew.heap[D]? = some (.deferred (some [])) := block_far (block_far hK (by omega)) (by omega)
    refine ⟨by simp, .inl ⟨_, _, rfl, run_takeDeferred hK', ?_⟩⟩
    have n1 := block_put (D := D) (o' := .deferred none) (block_far (B := w.heap.size + 1 + 1 + 1) (q := 0) (x := .bool gb) (cells_set1 (x := .int .i64 ga) HI.out.r) (by omega)) (by omega)
    have n2 := block_put (D := D) (o' := .deferred none) (cells_set1 (x := .bool gb) (block_far (B := w.heap.size + 1 + 1) (q := 0) (x := .int .i64 ga) HI.out.e (by omega))) (by omega)
    have d0 : (((W.setCell ⟨w.heap.size + 1 + 1, 0, none⟩ (.int .i64 ga)).setCell ⟨w.heap.size + 1 + 1 + 1, 0, none⟩ (.bool gb)).drew.putObj D (.deferred none)).cell? ⟨w.heap.size + 1 + 1, 0, none⟩ = some (.int .i64 ga) := cell_of_cells n1 (j := 0) rfl
    have d1 : (((W.setCell ⟨w.heap.size + 1 + 1, 0, none⟩ (.int .i64 ga)).setCell ⟨w.heap.size + 1 + 1 + 1, 0, none⟩ (.bool gb)).drew.putObj D (.deferred none)).cell? ⟨w.heap.size + 1 + 1 + 1, 0, none⟩ = some (.bool gb) := cell_of_cells n2 (j := 0) rfl
    refine ⟨.tuple #[.int .i64 ga, .bool gb], ?_, by rw [HL.out], ((set1_below (set1_below HI.out.be (by omega)) (by omega)).drew).trans (belowK_b (w := w) (Nat.le_refl _) _ D _ _ (by omega) hK' rfl rfl)⟩
    simp [results, Tryd.results17, go_sem, d0, d1]
  case stop =>
    rintro D M N k W hD ⟨hI, hg⟩ hK
    gi_wp2
    refine ⟨by simp, .inl ⟨_, _, rfl, run_takeDeferred hK, ?_⟩⟩
    have d0 := cell_of_cells (block_put (D := D) (o' := .deferred none) hI.r (by omega)) (j := 0) rfl
    have d1 := cell_of_cells (block_put (D := D) (o' := .deferred none) hI.e (by omega)) (j := 0) rfl
    refine ⟨.tuple #[.int .i64 0, .bool false], ?_, by rw [hg], hI.be.trans (belowK_b (w := w) (Nat.le_refl _) _ D _ _ (by omega) hK rfl rfl)⟩
    simp [results, Tryd.results17, go_sem, d0, d1]
end Go.Proofs.YtobhmiknlbjmkaaDoor
