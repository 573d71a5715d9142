/-
  The contract of voice.Starts: a range over the events with their places.
-/
import Derived.Test.YtobhmiknlbjmkaaDoorVoU
import Derived.Maps.AppendAt
namespace Go.Proofs.YtobhmiknlbjmkaaDoor
open Go.RowKit Go.Shelf
attribute [local go_sem] Oper.semAt_some
open Evt (P3 Ev)
open Voi (R2 Sp Turns Lays Mine)

namespace Voi
/-- The first error of them. -/
def errOf : List Sp → Int
  | [] => 0
  | x :: l => if x.er = 0 then errOf l else x.er
theorem errOf_stop : ∀ {l : List Sp} {k : Nat} {x : Sp}, (∀ y ∈ l.take k, y.er = 0) → l[k]? = some x → x.er ≠ 0 → errOf l = x.er
  | [], k, x, _, h, _ => by simp at h
  | y :: l, 0, x, _, h, hn => by simp at h; subst h; rw [errOf, if_neg hn]
  | y :: l, k + 1, x, ht, h, hn => by
    rw [List.take_succ_cons] at ht
    rw [errOf, if_pos (ht y List.mem_cons_self)]
    exact errOf_stop (fun z hz => ht z (List.mem_cons_of_mem _ hz)) (by simpa using h) hn
theorem errOf_ok : ∀ {l : List Sp}, (∀ y ∈ l, y.er = 0) → errOf l = 0
  | [], _ => rfl
  | y :: l, h => by rw [errOf, if_pos (h y List.mem_cons_self)]; exact errOf_ok fun z hz => h z (List.mem_cons_of_mem _ hz)
theorem ok_take {l : List Sp} {k : Nat} {x : Sp} (h : ∀ y ∈ l.take k, y.er = 0) (hx : l[k]? = some x) (he : x.er = 0) : ∀ y ∈ l.take (k + 1), y.er = 0 := by
  rw [take_succ_at hx]
  intro y hy
  rcases List.mem_append.1 hy with hy | hy
  · exact h y hy
  · simp at hy; subst hy; exact he
theorem run_len : ∀ (l : List EM) (n : Nat) (f : R2), (run n f l).length ≤ l.length
  | [], _, _ => by simp [run]
  | y :: l, n, f => by
    rw [run]
    split
    · simp only [List.length_cons]; have := run_len l (n + 1) (addR f (lnR y.1)).1; omega
    · simp
theorem spn_len (ys : List EM) : (spn ys).length ≤ 64 := by
  unfold spn
  split
  · rename_i h
    have := (chk_ok_iff h).2.1
    rw [List.length_map] at this
    exact Nat.le_trans (run_len ys 0 _) this
  · simp
end Voi
def encR (x : R2) : List Value := [.int .i64 x.1, .int .i64 x.2]
theorem lenR : ∀ x, (encR x).length = 2 := fun _ => rfl
theorem oneR (x : R2) : ∀ u ∈ encR x, u.oneCell' = true := by intro u hu; simp [encR] at hu; rcases hu with rfl | rfl <;> rfl
theorem infoR2 : (Tryd.prog.info? 36).map (fun i => (i.zero, i.size, i.bytes)) = some (some (.agg #[.int .i64 0, .int .i64 0]), 2, 16) := by kernel_rfl
theorem cellsR_new (w : World) (t : TypeId) (x : R2) {n : Nat} (hn : w.heap.size = n) : ∀ (jj : Nat) (u : Value), (encR x)[jj]? = some u → (w.alloc (.cells (encR x).toArray t)).cell? (Addr.add ⟨n, 0, none⟩ jj) = some u := by
  subst hn
  intro jj u hu
  rcases jj with _ | _ | jj
  all_goals (simp [encR] at hu)
  all_goals (subst hu; simp [Addr.add, encR])
/-- A row of one's own lies as it lay where its block does. -/
theorem own_block {W W' : World} {base : Nat} {e : TypeId} {size : Nat} {v : Value} {n : Nat} {xs : List Value} (h : W.ownsRow base e size v n xs) (hb : ∀ g, v.ownBlock = some g → W'.heap[g]? = W.heap[g]?) : W'.ownsRow base e size v n xs := by
  refine ⟨h.1, ?_⟩
  rcases h.2 with hn | ⟨g, cap, cur, rfl, h1, h2, h3⟩
  · exact .inl hn
  · exact .inr ⟨g, cap, cur, rfl, h1, (hb g rfl).trans h2, h3⟩
theorem news5 (w : World) (a b c d e : Obj) : (((((w.alloc a).alloc b).alloc c).alloc d).alloc e).heap[w.heap.size]? = some a ∧ (((((w.alloc a).alloc b).alloc c).alloc d).alloc e).heap[w.heap.size + 1]? = some b ∧ (((((w.alloc a).alloc b).alloc c).alloc d).alloc e).heap[w.heap.size + 1 + 1]? = some c ∧ (((((w.alloc a).alloc b).alloc c).alloc d).alloc e).heap[w.heap.size + 1 + 1 + 1]? = some d ∧ (((((w.alloc a).alloc b).alloc c).alloc d).alloc e).heap[w.heap.size + 1 + 1 + 1 + 1]? = some e :=
  ⟨block_old (news4 w a b c d).1, block_old (news4 w a b c d).2.1, block_old (news4 w a b c d).2.2.1, block_old (news4 w a b c d).2.2.2, by have := block_new ((((w.alloc a).alloc b).alloc c).alloc d) e; rwa [World.size_alloc, World.size_alloc, World.size_alloc, World.size_alloc] at this⟩
theorem grown_turns {W w5 : World} {o : Obj} {v : Value} (h : (W.alloc o).grownBy w5 v.ownBlock) : Turns (fun j => v.ownBlock = some j) W w5 :=
  ⟨h.os, h.tape, h.output, by have := h.size; simp at this; omega, fun k hk hs => (h.block k (by simp; omega) (fun e => hs e.symm)).trans (Below.heap_alloc _ _ _ hk)⟩
/-- The memory of Starts between two rounds. -/
structure StI (w : World) (b R M : Nat) (l : List R2) (u : Value) (N : Nat) (W : World) : Prop where
  r : W.heap[R + 1]? = some (.cells #[.slice none 0 0] 32 (0, 0))
  e : W.heap[R + 1 + 1]? = some (.cells #[.int .i64 0] 29 (0, 0))
  f : W.heap[R + 1 + 1 + 1]? = some (.cells #[u] 32 (0, 0))
  o : W.ownsRow M 36 2 u l.length (l.flatMap encR)
  be : Below w.heap.size w W
  bM : b ≤ M
  bN : b ≤ N
  oN : ∀ g, u.ownBlock = some g → g < N
structure StX (w : World) (b R : Nat) (er : Int) (N : Nat) (W : World) : Prop where
  r : W.heap[R + 1]? = some (.cells #[.slice none 0 0] 32 (0, 0))
  e : W.heap[R + 1 + 1]? = some (.cells #[.int .i64 er] 29 (0, 0))
  be : Below w.heap.size w W
  bN : b ≤ N
theorem StI.turn {w : World} {b R M N : Nat} {l : List R2} {u : Value} {A B : World} (h : StI w b R M l u N A) (ht : Turns (Mine b M N) A B) (hR : R + 3 < b) (hw : w.heap.size ≤ b) : StI w b R M l u N B :=
  ⟨ht.own h.r (by omega) h.bN, ht.own h.e (by omega) h.bN, ht.own h.f hR h.bN, own_block h.o (fun g hg => ht.block g (h.o.lt g hg).2 (fun hm => by have h1 := (h.o.lt g hg).1; have h2 := h.oN g hg; rcases hm with e | e <;> omega)), Turns.below' h.be ht hw h.bN h.be.size, h.bM, h.bN, h.oN⟩
theorem StX.turn {w : World} {b R M N : Nat} {er : Int} {A B : World} (h : StX w b R er N A) (ht : Turns (Mine b M N) A B) (hR : R + 2 < b) (hw : w.heap.size ≤ b) : StX w b R er N B :=
  ⟨ht.own h.r (by omega) h.bN, ht.own h.e hR h.bN, Turns.below' h.be ht hw h.bN h.be.size, h.bN⟩
def StPost (xs : List Sp) (w : World) (ed : Ending) (w' : World) : Prop :=
  ((Voi.errOf xs = 0 → ∃ u, ed = .returned (.tuple #[u, .int .i64 0]) ∧ Sl 2 encR w' u (xs.map Sp.fr)) ∧ (Voi.errOf xs ≠ 0 → ed = .returned (.tuple #[.slice none 0 0, .int .i64 (Voi.errOf xs)]))) ∧ Below w.heap.size w w'

set_option maxRecDepth 100000 in
set_option maxHeartbeats 40000000 in
theorem vstarts_any (v : Value) (ys : List EM) (w : World) (h : Evs w v ys) (hR : Ready w) :
    Calls Tryd.prog 13 #[.agg #[v]] w (StPost (Voi.spn ys) w) := by
  obtain ⟨i0, hi, hz0, hz1, hz2⟩ := info_parts infoR2
  have HC := Lib.hid h
  obtain ⟨p0, c0, rfl, hl0⟩ := sl_shape h.row
  clear h
  have HR := Lib.hid hR
  clear hR
  have hlen := Voi.spn_len ys
  refine (callsIn_wide (n := 3)).1 ?_
  refine callsIn_of_wp_marks Tryd.func13 rfl trivial ?_ rfl
  simp only [Tryd.ntmps13, List.size_toArray, List.length_cons, List.length_nil, Nat.reduceAdd, Nat.reduceSub, Array.replicate_succ, Array.replicate_zero, List.push_toArray, List.append_toArray, List.nil_append, List.cons_append]
  gi_wp2_with (refine ⟨trivial, ?_⟩; gi_at_call 27; refine (callsIn_wide.2 (spansF_any _ _)).mono ?_; rintro e w' ⟨rfl, rfl⟩)
  have hBw : Below w.heap.size w (((((w.alloc (.cells #[.slice p0 ys.length c0] 26)).alloc (.cells #[.slice none 0 0] 32)).alloc (.cells #[.int .i64 0] 29)).alloc (.cells #[.slice none 0 0] 32)).alloc (.cells #[.slice p0 ys.length c0] 26)) := by repeat (first | exact Below.refl _ _ | refine Below.alloc ?_ (by simp <;> omega) _)
  obtain ⟨u0, u1, u2, u3, u4⟩ := news5 w (.cells #[.slice p0 ys.length c0] 26) (.cells #[.slice none 0 0] 32) (.cells #[.int .i64 0] 29) (.cells #[.slice none 0 0] 32) (.cells #[.slice p0 ys.length c0] 26)
  have hsz : (((((w.alloc (.cells #[.slice p0 ys.length c0] 26)).alloc (.cells #[.slice none 0 0] 32)).alloc (.cells #[.int .i64 0] 29)).alloc (.cells #[.slice none 0 0] 32)).alloc (.cells #[.slice p0 ys.length c0] 26)).heap.size = w.heap.size + 5 := by simp
  have HI : Hid ((((((w.alloc (.cells #[.slice p0 ys.length c0] 26)).alloc (.cells #[.slice none 0 0] 32)).alloc (.cells #[.int .i64 0] 29)).alloc (.cells #[.slice none 0 0] 32)).alloc (.cells #[.slice p0 ys.length c0] 26)).heap[w.heap.size + 1]? = some (.cells #[.slice none 0 0] 32 (0, 0)) ∧ (((((w.alloc (.cells #[.slice p0 ys.length c0] 26)).alloc (.cells #[.slice none 0 0] 32)).alloc (.cells #[.int .i64 0] 29)).alloc (.cells #[.slice none 0 0] 32)).alloc (.cells #[.slice p0 ys.length c0] 26)).heap[w.heap.size + 1 + 1]? = some (.cells #[.int .i64 0] 29 (0, 0)) ∧ (((((w.alloc (.cells #[.slice p0 ys.length c0] 26)).alloc (.cells #[.slice none 0 0] 32)).alloc (.cells #[.int .i64 0] 29)).alloc (.cells #[.slice none 0 0] 32)).alloc (.cells #[.slice p0 ys.length c0] 26)).heap[w.heap.size + 1 + 1 + 1]? = some (.cells #[.slice none 0 0] 32 (0, 0))) := Lib.hid ⟨u1, u2, u3⟩
  clear u0 u1 u2 u3
  generalize (((((w.alloc (.cells #[.slice p0 ys.length c0] 26)).alloc (.cells #[.slice none 0 0] 32)).alloc (.cells #[.int .i64 0] 29)).alloc (.cells #[.slice none 0 0] 32)).alloc (.cells #[.slice p0 ys.length c0] 26)) = W0 at *
  refine Voi.wpIn_rangeFunc_feeds rfl (by omega) (gf := 51) (lb := #[.pointer (some ⟨w.heap.size + 1 + 1 + 1 + 1, 0, none⟩)]) rfl trivial (enters_of Tryd.func51 (by kernel_rfl) rfl)
    (spans_feeds (3 - 1) (by omega) (w.heap.size + 1 + 1 + 1 + 1) _ ys w W0 HC.out HR.out hBw u4) (Below.refl _ _) (fun _ => rfl) (fun k hk => by rcases hk with h | h <;> omega)
    (fun M N k W => (∃ u, StI w W0.heap.size w.heap.size M (((Voi.spn ys).take k).map Sp.fr) u N W) ∧ ∀ y ∈ (Voi.spn ys).take k, y.er = 0)
    (fun M N k W => ∃ er, StX w W0.heap.size w.heap.size er N W ∧ er ≠ 0 ∧ Voi.errOf (Voi.spn ys) = er)
    (fun M N k A B h ht => by obtain ⟨⟨u, h1⟩, h2⟩ := h; exact ⟨⟨u, h1.turn ht (by omega) (by omega)⟩, h2⟩)
    (fun M N k A B h ht => by obtain ⟨g, h1, h2⟩ := h; exact ⟨g, h1.turn ht (by omega) (by omega), h2⟩)
    (fun W' hW hz => ⟨⟨.slice none 0 0, by
      have hi := HI.out
      exact ⟨(hW.block _ (by omega)).trans hi.1, (hW.block _ (by omega)).trans hi.2.1, (hW.block _ (by omega)).trans hi.2.2, World.ownsRow_nil _ _ _ _, below_two hBw hW, by omega, by omega, fun g hg => by cases hg⟩⟩, fun y hy => by simp at hy⟩) ?round ?done ?stop
  case round =>
    rintro l M N k x W ⟨⟨u, hI⟩, hg⟩ hx hM hMN hNW
    have HI := Lib.hid hI
    have HG := Lib.hid hg
    have HX := Lib.hid hx
    have hk : k < 64 := Nat.lt_of_lt_of_le (List.getElem?_eq_some_iff.1 hx).1 hlen
    clear hI hg hx
    have zb := HI.out.bN
    obtain ⟨ev, q1, n1, d1, q2, n2, d2, q3, n3, d3, hy⟩ := spn_shape HC.out (List.mem_of_getElem? HX.out)
    obtain ⟨num, y, ⟨f0, f1⟩, ⟨x0, x1⟩, er⟩ := x
    dsimp only at hy
    subst hy
    dsimp only [Voi.encS]
    gi_wp2
    refine ⟨Lays.of_below ((Below.refl _ _).alloc (Nat.le_refl _) _), fun W'' hT hs => ?_⟩
    have SB := Lib.hid (hT.at (block_new W _) (fun e => by omega))
    have hI2 : StI w W0.heap.size w.heap.size M (((Voi.spn ys).take k).map Sp.fr) u N W'' := (HI.out.turn (M := M) (Turns.of_below ((Below.refl _ _).alloc (Nat.le_refl _) _)) (by omega) (by omega)).turn hT.mine (by omega) (by omega)
    have H2 := Lib.hid hI2
    have k0 := cell_of_cells hI2.r (j := 0) rfl
    have k1 := cell_of_cells hI2.e (j := 0) rfl
    have k2 := cell_of_cells hI2.f (j := 0) rfl
    have g0 := frozen_of_cells hI2.r (j := 0)
    have g1 := frozen_of_cells hI2.e (j := 0)
    have g2 := frozen_of_cells hI2.f (j := 0)
    have s0 := cell_of_cells SB.out (j := 10) rfl
    have s1 := cell_of_cells SB.out (j := 11) rfl
    have zW := lt_of_block SB.out
    have zsr1 : w.heap.size + 1 < W.heap.size := by omega
    have zsr2 : w.heap.size + 1 + 1 < W.heap.size := by omega
    have zsr3 : w.heap.size + 1 + 1 + 1 < W.heap.size := by omega
    clear hI2 hs hT
    by_cases he : er = 0
    · subst he
      obtain ⟨L, hL⟩ : ∃ L, ((Voi.spn ys).take k).map Sp.fr = L := ⟨_, rfl⟩
      have HL := Lib.hid hL
      have hLk : L.length = k := by rw [← hL, List.length_map, List.length_take]; have := (List.getElem?_eq_some_iff.1 HX.out).1; omega
      rw [hL] at H2
      clear hL
      gi_wp2_with (gi_at_builtin; refine wpListIn_append_own _ rfl _ _ 32 rfl M 36 i0 (.agg #[.int .i64 0, .int .i64 0]) 2 16 Tryd.underlying32 hi hz0 hz1 hz2 rfl (by decide) _ _ _ rfl (H2.out.o.alloc _) ⟨W''.heap.size, 0, none⟩ 1 1 (encR (f0, f1)) rfl rfl (cellsR_new _ _ _ rfl) (oneR _) (by unfold maxLen; omega) (by omega) (by simp; omega) ?_; intro v' w5 hown' hgrow _; obtain ⟨pv, cv', rfl⟩ := own_shape3 hown'; have HO5 := Lib.hid hown'; have hT5 : Turns (fun j => u.ownBlock = some j) W'' w5 := grown_turns hgrow; have HT5 := Lib.hid hT5; have hu : u.ownBlock ≠ some (w.heap.size + 1 + 1 + 1) := (fun e => by have := (H2.out.o.lt _ e).1; omega); have k25 := hT5.cell k2 hu; have g25 := hT5.frozen k2 g2 hu; clear hown' hgrow hT5 hu)
      have hu : ∀ j, u.ownBlock = some j → M ≤ j ∧ j < N := fun j hj => ⟨(H2.out.o.lt _ hj).1, H2.out.oN j hj⟩
      have hz5 := HT5.out.size
      have ho5 := HO5.out
      rw [hLk] at ho5
      refine ⟨(Lays.of_turns HT5.out (fun j hj e => by have := hu j e; rcases hj with (h | h) | h | h <;> omega)).trans (Lays.set _ _ (fun hj => by rcases hj with (h | h) | h | h <;> simp at h <;> omega)), ⟨.slice pv (k + 1) cv', ⟨?_, ?_, ?_, ?_, ?_, H2.out.bM, by simp; omega, ?_⟩⟩, Voi.ok_take HG.out HX.out rfl⟩
      · exact block_far (HT5.out.at H2.out.r (fun e => by have := hu _ e; omega)) (by omega)
      · exact block_far (HT5.out.at H2.out.e (fun e => by have := hu _ e; omega)) (by omega)
      · exact cells_set1 (HT5.out.at H2.out.f (fun e => by have := hu _ e; omega))
      · refine own_set ?_ (by omega)
        rw [take_succ_at HX.out, List.map_append, HL.out, List.length_append, List.flatMap_append]
        simp only [List.map_cons, List.map_nil, List.flatMap_cons, List.flatMap_nil, List.append_nil, List.length_cons, List.length_nil, hLk]
        exact ho5
      · exact set1_below (H2.out.be.trans (HT5.out.below (fun j e => by have := hu _ e; omega) H2.out.be.size)) (by omega)
      · intro g hg
        simpa using (ho5.lt g hg).2
    · have hne : (er != 0) = true := by simpa using he
      have HE := Lib.hid he
      clear he
      gi_wp2
      have hne : ∀ j, (j < w.heap.size ∨ j = w.heap.size + 1 + 1 + 1 + 1) ∨ Mine W0.heap.size M N j → j ≠ w.heap.size + 1 ∧ j ≠ w.heap.size + 1 + 1 := fun j hj => by rcases hj with (h | h) | h | h <;> omega
      refine ⟨(Lays.set _ _ (fun h => (hne _ h).1 rfl)).trans (Lays.set _ _ (fun h => (hne _ h).2 rfl)), er, ⟨?_, ?_, ?_, ?_⟩, HE.out, Voi.errOf_stop HG.out HX.out HE.out⟩
      · exact block_far (cells_set1 H2.out.r) (by omega)
      · exact cells_set1 (block_far H2.out.e (by omega))
      · exact set1_below (set1_below H2.out.be (by omega)) (by omega)
      · simp; omega
  case done =>
    rintro D M N W ⟨hD, _⟩ ⟨⟨u, hI⟩, hg⟩ hK
    rw [List.take_length] at hI hg
    have hl : Voi.errOf (Voi.spn ys) = 0 := Voi.errOf_ok hg
    have k0 := cell_of_cells hI.r (j := 0) rfl
    have k1 := cell_of_cells hI.e (j := 0) rfl
    have k2 := cell_of_cells hI.f (j := 0) rfl
    have g0 := frozen_of_cells hI.r (j := 0)
    have g1 := frozen_of_cells hI.e (j := 0)
    have ho := hI.o
    rw [List.length_map] at ho
    obtain ⟨pv, cv, rfl⟩ := own_shape3 ho
    have HO := Lib.hid ho
    have HI := Lib.hid hI
    have HL := Lib.hid hl
    clear hI hl hg ho
    gi_wp2
    have hK' : ((W.setCell ⟨w.heap.size + 1, 0, none⟩ (.slice pv (Voi.spn ys).length cv)).setCell ⟨w.heap.size + 1 + 1, 0, none⟩ (.int .i64 0)).heap[D]? = some (.deferred (some [])) := block_far (block_far hK (by omega)) (by omega)
    refine ⟨by simp, .inl ⟨_, _, rfl, run_takeDeferred hK', ?_⟩⟩
    have n1 := block_put (D := D) (o' := .deferred none) (block_far (B := w.heap.size + 1 + 1) (q := 0) (x := .int .i64 0) (cells_set1 (x := .slice pv (Voi.spn ys).length cv) HI.out.r) (by omega)) (by omega)
    have n2 := block_put (D := D) (o' := .deferred none) (cells_set1 (x := .int .i64 0) (block_far (B := w.heap.size + 1) (q := 0) (x := .slice pv (Voi.spn ys).length cv) HI.out.e (by omega))) (by omega)
    have d0 := cell_of_cells n1 (j := 0) rfl
    have d1 := cell_of_cells n2 (j := 0) rfl
    have HS := own_block (W' := (((W.setCell ⟨w.heap.size + 1, 0, none⟩ (.slice pv (Voi.spn ys).length cv)).setCell ⟨w.heap.size + 1 + 1, 0, none⟩ (.int .i64 0)).putObj D (.deferred none))) HO.out (fun g hg => by
      have h1 := HO.out.lt g hg
      have h2 := HI.out.bM
      have hgD : g ≠ D := by
        rintro rfl
        rcases HO.out.2 with ⟨e, _⟩ | ⟨g', cap, cur, e, _, h3, _⟩
        · rw [e] at hg; cases hg
        · rw [e] at hg
          have : g' = g := by simpa [Value.ownBlock] using hg
          subst this
          rw [hK] at h3
          cases h3
      exact (World.putObj_heap_other hgD).trans ((Below.heap_setCell _ _ _ _ (show g ≠ w.heap.size + 1 + 1 by omega)).trans (Below.heap_setCell _ _ _ _ (show g ≠ w.heap.size + 1 by omega))))
    refine ⟨.tuple #[.slice pv (Voi.spn ys).length cv, .int .i64 0], ?_, ⟨fun _ => ⟨_, rfl, ?_⟩, fun h => absurd HL.out h⟩, (set1_below (set1_below HI.out.be (by omega)) (by omega)).trans (belowK_b (w := w) (Nat.le_refl _) _ D _ _ (by omega) hK' rfl rfl)⟩
    · simp [results, Tryd.results13, go_sem, d0, d1]
    · exact row_sl lenR (by rw [List.length_map]) (by rw [List.length_map]; omega) HS
  case stop =>
    rintro D M N k W hD ⟨er, hI, hne, hg⟩ hK
    gi_wp2
    refine ⟨by simp, .inl ⟨_, _, rfl, run_takeDeferred hK, ?_⟩⟩
    have d0 := cell_of_cells (block_put (D := D) (o' := .deferred none) hI.r (by omega)) (j := 0) rfl
    have d1 := cell_of_cells (block_put (D := D) (o' := .deferred none) hI.e (by omega)) (j := 0) rfl
    refine ⟨.tuple #[.slice none 0 0, .int .i64 er], ?_, ⟨fun h => absurd (hg.symm.trans h) hne, fun _ => by rw [hg]⟩, hI.be.trans (belowK_b (w := w) (Nat.le_refl _) _ D _ _ (by omega) hK rfl rfl)⟩
    simp [results, Tryd.results13, go_sem, d0, d1]
end Go.Proofs.YtobhmiknlbjmkaaDoor
