/-
  The contract of voice.Length: a range over the events with their places.
-/
import Derived.Test.YtobhmiknlbjmkaaDoorVoS
namespace Go.Proofs.YtobhmiknlbjmkaaDoor
open Go.RowKit Go.Shelf
attribute [local go_sem] Oper.semAt_some
open Evt (P3 Ev)
open Voi (R2 Sp Turns Lays Mine)

namespace Voi
/-- Where the last of them ends, or the first error. -/
def endOf : R2 → List Sp → R2 × Int
  | f, [] => (f, 0)
  | _, x :: l => if x.er = 0 then endOf x.tt l else ((0, 0), x.er)
theorem endOf_go {f : R2} {l : List Sp} {k : Nat} {x : Sp} (h : l[k]? = some x) (he : x.er = 0) : endOf f (l.drop k) = endOf x.tt (l.drop (k + 1)) := by
  obtain ⟨hk, rfl⟩ := List.getElem?_eq_some_iff.1 h
  rw [List.drop_eq_getElem_cons hk, endOf, if_pos he]
theorem endOf_stop {f : R2} {l : List Sp} {k : Nat} {x : Sp} (h : l[k]? = some x) (he : x.er ≠ 0) : endOf f (l.drop k) = ((0, 0), x.er) := by
  obtain ⟨hk, rfl⟩ := List.getElem?_eq_some_iff.1 h
  rw [List.drop_eq_getElem_cons hk, endOf, if_neg he]
end Voi
theorem run_mem : ∀ {l : List EM} {n : Nat} {f : R2} {x : Sp}, x ∈ Voi.run n f l → (x.er ≠ 0 ∧ x = Sp.zero x.er) ∨ (x.er = 0 ∧ x.y ∈ l)
  | [], _, _, _, h => by simp [Voi.run] at h
  | y :: l, n, f, x, h => by
    rw [Voi.run] at h
    split at h
    · rcases List.mem_cons.1 h with rfl | h
      · exact .inr ⟨rfl, List.mem_cons_self⟩
      · exact (run_mem h).imp id (fun h => ⟨h.1, List.mem_cons_of_mem _ h.2⟩)
    · rename_i he
      rcases List.mem_cons.1 h with rfl | h
      · exact .inl ⟨he, rfl⟩
      · cases h
theorem spn_mem {ys : List EM} {x : Sp} (h : x ∈ Voi.spn ys) : (x.er ≠ 0 ∧ x = Sp.zero x.er) ∨ (x.er = 0 ∧ x.y ∈ ys) := by
  unfold Voi.spn at h
  split at h
  · exact run_mem h
  · rename_i he
    rcases List.mem_cons.1 h with rfl | h
    · exact .inl ⟨he, rfl⟩
    · cases h
theorem spn_shape {W : World} {v : Value} {ys : List EM} {x : Sp} (h : Evs W v ys) (hx : x ∈ Voi.spn ys) : ∃ (e : Ev) (p1 : Option Addr) (n1 c1 : Nat) (p2 : Option Addr) (n2 c2 : Nat) (p3 : Option Addr) (n3 c3 : Nat), x.y = (e, .slice p1 n1 c1, .slice p2 n2 c2, .slice p3 n3 c3) := by
  rcases spn_mem hx with ⟨_, e⟩ | ⟨_, hy⟩
  · exact ⟨Evt.zero, none, 0, 0, none, 0, 0, none, 0, 0, by rw [e]; rfl⟩
  · obtain ⟨p1, c1, p2, c2, p3, c3, e⟩ := evs_shape (h.each _ hy)
    exact ⟨_, _, _, _, _, _, _, _, _, _, e⟩
theorem frozen_of_cells {W : World} {g j : Nat} {cur : Array Value} {e : TypeId} (h : W.heap[g]? = some (.cells cur e (0, 0))) : W.frozen? ⟨g, j, none⟩ = false := by simp [World.frozen?, h]
theorem lt_of_block {W : World} {g : Nat} {o : Obj} (h : W.heap[g]? = some o) : g < W.heap.size := (Array.getElem?_eq_some_iff.1 h).1
theorem block_far {W : World} {g : Nat} {o : Obj} {B q : Nat} {x : Value} (h : W.heap[g]? = some o) (hne : g ≠ B) : (W.setCell ⟨B, q, none⟩ x).heap[g]? = some o := (Below.heap_setCell _ _ _ _ hne).trans h
theorem block_put {W : World} {g : Nat} {o o' : Obj} {D : Nat} (h : W.heap[g]? = some o) (hne : g ≠ D) : (W.putObj D o').heap[g]? = some o := (World.putObj_heap_other hne).trans h
theorem block_new (w : World) (o : Obj) : (w.alloc o).heap[w.heap.size]? = some o := World.alloc_heap_new w o
theorem block_old {w : World} {g : Nat} {o o' : Obj} (h : w.heap[g]? = some o) : (w.alloc o').heap[g]? = some o := (Below.heap_alloc _ _ _ (lt_of_block h)).trans h
theorem cells_set1 {W : World} {B : Nat} {u x : Value} {t : TypeId} {f : Nat × Nat} (h : W.heap[B]? = some (.cells #[u] t f)) : (W.setCell ⟨B, 0, none⟩ x).heap[B]? = some (.cells #[x] t f) := by
  obtain ⟨hlt, hk⟩ := Array.getElem?_eq_some_iff.1 h
  unfold World.setCell
  rw [Array.getElem?_eq_getElem (by simp only [Array.size_modify]; exact hlt), Array.getElem_modify_self, hk]
  rfl
theorem cells_set2 {W : World} {B : Nat} {u v x y : Value} {t : TypeId} {f : Nat × Nat} (h : W.heap[B]? = some (.cells #[u, v] t f)) : ((W.setCell ⟨B, 0, none⟩ x).setCell ⟨B, 1, none⟩ y).heap[B]? = some (.cells #[x, y] t f) := by
  obtain ⟨hlt, hk⟩ := Array.getElem?_eq_some_iff.1 h
  unfold World.setCell
  rw [Array.getElem?_eq_getElem (by simp only [Array.size_modify]; exact hlt), Array.getElem_modify_self, Array.getElem_modify_self, hk]
  rfl
theorem news2 (w : World) (a b : Obj) : ((w.alloc a).alloc b).heap[w.heap.size]? = some a ∧ ((w.alloc a).alloc b).heap[w.heap.size + 1]? = some b :=
  ⟨block_old (block_new w a), by have := block_new (w.alloc a) b; rwa [World.size_alloc] at this⟩
theorem news3 (w : World) (a b c : Obj) : (((w.alloc a).alloc b).alloc c).heap[w.heap.size]? = some a ∧ (((w.alloc a).alloc b).alloc c).heap[w.heap.size + 1]? = some b ∧ (((w.alloc a).alloc b).alloc c).heap[w.heap.size + 1 + 1]? = some c :=
  ⟨block_old (news2 w a b).1, block_old (news2 w a b).2, by have := block_new ((w.alloc a).alloc b) c; rwa [World.size_alloc, World.size_alloc] at this⟩
/-- A consumer's box ahead of the loop stays. -/
theorem Voi.Turns.own {b M N g : Nat} {A B : World} {o : Obj} (h : Turns (Mine b M N) A B) (ho : A.heap[g]? = some o) (hg : g < b) (hN : b ≤ N) : B.heap[g]? = some o := h.at ho (fun e => by rcases e with e | e <;> omega)
theorem Voi.Turns.below' {b M N n : Nat} {w A B : World} (hb : Below n w A) (h : Turns (Mine b M N) A B) (hn : n ≤ b) (hN : b ≤ N) (hs : n ≤ A.heap.size) : Below n w B := hb.trans (h.below (fun k e => by rcases e with e | e <;> omega) hs)
theorem Voi.Turns.mine {b M N : Nat} {A B : World} (h : Turns (fun j => b ≤ j ∧ j < M) A B) : Turns (Mine b M N) A B := h.wide fun _ e => .inl e
/-- The memory of Length between two rounds. -/
structure LenI (w : World) (b R En : Nat) (g : R2) (N : Nat) (W : World) : Prop where
  r : W.heap[R + 1]? = some (.cells #[.int .i64 0, .int .i64 0] 36 (0, 0))
  e : W.heap[R + 1 + 1]? = some (.cells #[.int .i64 0] 29 (0, 0))
  f : W.heap[En]? = some (.cells #[.int .i64 g.1, .int .i64 g.2] 36 (0, 0))
  be : Below w.heap.size w W
  bN : b ≤ N
structure LenX (w : World) (b R : Nat) (er : Int) (N : Nat) (W : World) : Prop where
  r : W.heap[R + 1]? = some (.cells #[.int .i64 0, .int .i64 0] 36 (0, 0))
  e : W.heap[R + 1 + 1]? = some (.cells #[.int .i64 er] 29 (0, 0))
  be : Below w.heap.size w W
  bN : b ≤ N
theorem LenI.turn {w : World} {b R En M N : Nat} {g : R2} {A B : World} (h : LenI w b R En g N A) (ht : Turns (Mine b M N) A B) (hR : R + 2 < b) (hE : En < b) (hw : w.heap.size ≤ b) : LenI w b R En g N B :=
  ⟨ht.own h.r (by omega) h.bN, ht.own h.e hR h.bN, ht.own h.f hE h.bN, Turns.below' h.be ht hw h.bN h.be.size, h.bN⟩
theorem LenX.turn {w : World} {b R M N : Nat} {er : Int} {A B : World} (h : LenX w b R er N A) (ht : Turns (Mine b M N) A B) (hR : R + 2 < b) (hw : w.heap.size ≤ b) : LenX w b R er N B :=
  ⟨ht.own h.r (by omega) h.bN, ht.own h.e hR h.bN, Turns.below' h.be ht hw h.bN h.be.size, h.bN⟩

set_option maxRecDepth 100000 in
set_option maxHeartbeats 40000000 in
theorem vlength_any (v : Value) (ys : List EM) (w : World) (h : Evs w v ys) (hR : Ready w) :
    Calls Tryd.prog 14 #[.agg #[v]] w fun ed w' => ed = .returned (rv (Voi.endOf (0, 1) (Voi.spn ys)).1.1 (Voi.endOf (0, 1) (Voi.spn ys)).1.2 (Voi.endOf (0, 1) (Voi.spn ys)).2) ∧ Below w.heap.size w w' := by
  have HC := Lib.hid h
  obtain ⟨p0, c0, rfl, hl0⟩ := sl_shape h.row
  clear h
  have HR := Lib.hid hR
  clear hR
  refine (callsIn_wide (n := 3)).1 ?_
  refine callsIn_of_wp_marks Tryd.func14 rfl trivial ?_ rfl
  simp only [Tryd.ntmps14, List.size_toArray, List.length_cons, List.length_nil, Nat.reduceAdd, Nat.reduceSub, Array.replicate_succ, Array.replicate_zero, List.push_toArray, List.append_toArray, List.nil_append, List.cons_append]
  gi_wp2_with fail
  refine ⟨trivial, ?_⟩
  refine (callsIn_wide.2 (beginning_is _)).mono ?_
  rintro e W2 ⟨rfl, hb2⟩
  have hb02 : Below w.heap.size w (((w.alloc (.cells #[.slice p0 ys.length c0] 26)).alloc (.cells #[.int .i64 0, .int .i64 0] 36)).alloc (.cells #[.int .i64 0] 29)) := by repeat (first | exact Below.refl _ _ | refine Below.alloc ?_ (by simp <;> omega) _)
  have hbw2 := below_two hb02 hb2
  obtain ⟨t0, t1, t2⟩ := news3 w (.cells #[.slice p0 ys.length c0] 26) (.cells #[.int .i64 0, .int .i64 0] 36) (.cells #[.int .i64 0] 29)
  have b0 := (hb2.block _ (by simp <;> omega)).trans t0
  have b1 := (hb2.block _ (by simp <;> omega)).trans t1
  have b2 := (hb2.block _ (by simp <;> omega)).trans t2
  have z2 : w.heap.size + 3 ≤ W2.heap.size := by have := hb2.size; simp at this; omega
  have zw2 : w.heap.size < W2.heap.size := by omega
  have zw3 : w.heap.size + 1 < W2.heap.size := by omega
  have zw4 : w.heap.size + 1 + 1 < W2.heap.size := by omega
  have cv : W2.cell? ⟨w.heap.size, 0, none⟩ = some (.slice p0 ys.length c0) := cell_of_cells b0 rfl
  have B1 := Lib.hid b1
  have B2 := Lib.hid b2
  clear hb02 hb2 t0 t1 t2 b0 b1 b2
  gi_wp2_with (refine ⟨trivial, ?_⟩; gi_at_call 27; refine (callsIn_wide.2 (spansF_any _ _)).mono ?_; rintro e w' ⟨rfl, rfl⟩)
  have hb0 : Below W2.heap.size W2 ((W2.alloc (.cells #[.int .i64 0, .int .i64 1] 36)).alloc (.cells #[.slice p0 ys.length c0] 26)) := ((Below.refl _ _).alloc (Nat.le_refl _) _).alloc (by simp) _
  have hBw : Below w.heap.size w ((W2.alloc (.cells #[.int .i64 0, .int .i64 1] 36)).alloc (.cells #[.slice p0 ys.length c0] 26)) := below_two hbw2 hb0
  obtain ⟨u0, u1⟩ := news2 W2 (.cells #[.int .i64 0, .int .i64 1] 36) (.cells #[.slice p0 ys.length c0] 26)
  have hsz : ((W2.alloc (.cells #[.int .i64 0, .int .i64 1] 36)).alloc (.cells #[.slice p0 ys.length c0] 26)).heap.size = W2.heap.size + 2 := by simp
  have HI : Hid (LenI w (W2.heap.size + 2) w.heap.size W2.heap.size (0, 1) (W2.heap.size + 2) ((W2.alloc (.cells #[.int .i64 0, .int .i64 1] 36)).alloc (.cells #[.slice p0 ys.length c0] 26))) := Lib.hid ⟨block_old (block_old B1.out), block_old (block_old B2.out), u0, hBw, Nat.le_refl _⟩
  clear cv hb0 u0 B1 B2
  generalize ((W2.alloc (.cells #[.int .i64 0, .int .i64 1] 36)).alloc (.cells #[.slice p0 ys.length c0] 26)) = W0 at *
  refine Voi.wpIn_rangeFunc_feeds (ps := #[10, 11]) rfl (by omega) (gf := 51) (lb := #[.pointer (some ⟨W2.heap.size + 1, 0, none⟩)]) rfl trivial (enters_of Tryd.func51 (by kernel_rfl) rfl)
    (spans_feeds (3 - 1) (by omega) (W2.heap.size + 1) _ ys w W0 HC.out HR.out hBw u1) (Below.refl _ _) (fun _ => rfl) (fun k hk => by rcases hk with h | h <;> omega)
    (fun M N k W => ∃ g, LenI w W0.heap.size w.heap.size W2.heap.size g N W ∧ Voi.endOf (0, 1) (Voi.spn ys) = Voi.endOf g ((Voi.spn ys).drop k))
    (fun M N k W => ∃ er, LenX w W0.heap.size w.heap.size er N W ∧ Voi.endOf (0, 1) (Voi.spn ys) = ((0, 0), er))
    (fun M N k A B h ht => by obtain ⟨g, h1, h2⟩ := h; exact ⟨g, h1.turn ht (by omega) (by omega) (by omega), h2⟩)
    (fun M N k A B h ht => by obtain ⟨g, h1, h2⟩ := h; exact ⟨g, h1.turn ht (by omega) (by omega), h2⟩)
    (fun W' hW hz => ⟨(0, 1), by
      have hi := HI.out
      exact ⟨(hW.block _ (by omega)).trans hi.r, (hW.block _ (by omega)).trans hi.e, (hW.block _ (by omega)).trans hi.f, below_two hBw hW, by omega⟩, rfl⟩) ?round ?done ?stop
  case round =>
    rintro l M N k x W ⟨g, hI, hg⟩ hx hM hMN hNW
    have HI := Lib.hid hI
    have HG := Lib.hid hg
    have HX := Lib.hid hx
    clear hI hg hx
    have zb := HI.out.bN
    obtain ⟨ev, q1, n1, d1, q2, n2, d2, q3, n3, d3, hy⟩ := spn_shape HC.out (List.mem_of_getElem? HX.out)
    obtain ⟨num, y, ⟨f0, f1⟩, ⟨x0, x1⟩, er⟩ := x
    dsimp only at hy
    subst hy
    dsimp only [Voi.encS]
    gi_wp2
    refine ⟨Lays.of_below ((Below.refl _ _).alloc (Nat.le_refl _) _), fun W'' hT hs => ?_⟩
    have SB := Lib.hid (hT.at (block_new W _) (fun e => by omega))
    have hI2 : LenI w W0.heap.size w.heap.size W2.heap.size g N W'' := (HI.out.turn (M := M) (Turns.of_below ((Below.refl _ _).alloc (Nat.le_refl _) _)) (by omega) (by omega) (by omega)).turn hT.mine (by omega) (by omega) (by omega)
    have H2 := Lib.hid hI2
    have c0 := cell_of_cells hI2.r (j := 0) rfl
    have c1 := cell_of_cells hI2.r (j := 1) rfl
    have c2 := cell_of_cells hI2.e (j := 0) rfl
    have c3 := cell_of_cells hI2.f (j := 0) rfl
    have c4 := cell_of_cells hI2.f (j := 1) rfl
    have g0 := frozen_of_cells hI2.r (j := 0)
    have g1 := frozen_of_cells hI2.r (j := 1)
    have g2 := frozen_of_cells hI2.e (j := 0)
    have g3 := frozen_of_cells hI2.f (j := 0)
    have g4 := frozen_of_cells hI2.f (j := 1)
    have s0 := cell_of_cells SB.out (j := 12) rfl
    have s1 := cell_of_cells SB.out (j := 13) rfl
    have zs : W2.heap.size < W.heap.size := by omega
    have zs1 : w.heap.size + 1 < W.heap.size := by omega
    have zs2 : w.heap.size + 1 + 1 < W.heap.size := by omega
    clear hI2 hs hT
    by_cases he : er = 0
    · subst he
      gi_wp2
      have hne : ∀ j, (j < w.heap.size ∨ j = W2.heap.size + 1) ∨ Mine W0.heap.size M N j → j ≠ W2.heap.size := fun j hj e => by rcases hj with (h | h) | h | h <;> omega
      refine ⟨(Lays.set _ _ (fun h => hne _ h rfl)).trans (Lays.set _ _ (fun h => hne _ h rfl)), (x0, x1), ⟨?_, ?_, ?_, ?_, ?_⟩, HG.out.trans (Voi.endOf_go HX.out rfl)⟩
      · exact block_far (block_far H2.out.r (by omega)) (by omega)
      · exact block_far (block_far H2.out.e (by omega)) (by omega)
      · exact cells_set2 H2.out.f
      · exact set1_below (set1_below H2.out.be (by omega)) (by omega)
      · have := lt_of_block SB.out; simp; omega
    · have hne : (er != 0) = true := by simpa using he
      have HE := Lib.hid he
      clear he
      gi_wp2
      have hne : ∀ j, (j < w.heap.size ∨ j = W2.heap.size + 1) ∨ Mine W0.heap.size M N j → j ≠ w.heap.size + 1 ∧ j ≠ w.heap.size + 1 + 1 := fun j hj => by rcases hj with (h | h) | h | h <;> omega
      refine ⟨((Lays.set _ _ (fun h => (hne _ h).1 rfl)).trans (Lays.set _ _ (fun h => (hne _ h).1 rfl))).trans (Lays.set _ _ (fun h => (hne _ h).2 rfl)), er, ⟨?_, ?_, ?_, ?_⟩, HG.out.trans (Voi.endOf_stop HX.out HE.out)⟩
      · exact block_far (cells_set2 H2.out.r) (by omega)
      · exact cells_set1 (block_far (block_far H2.out.e (by omega)) (by omega))
      · exact set1_below (set1_below (set1_below H2.out.be (by omega)) (by omega)) (by omega)
      · have := lt_of_block SB.out; simp; omega
  case done =>
    rintro D M N W ⟨hD, _⟩ ⟨g, hI, hg⟩ hK
    obtain ⟨ga, gb⟩ := g
    have hl : Voi.endOf (0, 1) (Voi.spn ys) = ((ga, gb), 0) := by rw [hg, List.drop_length]; rfl
    have c0 := cell_of_cells hI.r (j := 0) rfl
    have c1 := cell_of_cells hI.r (j := 1) rfl
    have c2 := cell_of_cells hI.e (j := 0) rfl
    have c3 := cell_of_cells hI.f (j := 0) rfl
    have c4 := cell_of_cells hI.f (j := 1) rfl
    have g0 := frozen_of_cells hI.r (j := 0)
    have g1 := frozen_of_cells hI.r (j := 1)
    have g2 := frozen_of_cells hI.e (j := 0)
    dsimp only at c3 c4
    have HI := Lib.hid hI
    have HL := Lib.hid hl
    clear hI hl hg
    gi_wp2
    have hK' : (((W.setCell ⟨w.heap.size + 1, 0, none⟩ (.int .i64 ga)).setCell ⟨w.heap.size + 1, 1, none⟩ (.int .i64 gb)).setCell ⟨w.heap.size + 1 + 1, 0, none⟩ (.int .i64 0)).heap[D]? = some (.deferred (some [])) := block_far (block_far (block_far hK (by omega)) (by omega)) (by omega)
    refine ⟨by simp, .inl ⟨_, _, rfl, run_takeDeferred hK', ?_⟩⟩
    have n1 := block_put (D := D) (o' := .deferred none) (block_far (B := w.heap.size + 1 + 1) (q := 0) (x := .int .i64 0) (cells_set2 (x := .int .i64 ga) (y := .int .i64 gb) HI.out.r) (by omega)) (by omega)
    have n2 := block_put (D := D) (o' := .deferred none) (cells_set1 (x := .int .i64 0) (block_far (B := w.heap.size + 1) (q := 1) (x := .int .i64 gb) (block_far (B := w.heap.size + 1) (q := 0) (x := .int .i64 ga) HI.out.e (by omega)) (by omega))) (by omega)
    have d0 := cell_of_cells n1 (j := 0) rfl
    have d1 := cell_of_cells n1 (j := 1) rfl
    have d2 := cell_of_cells n2 (j := 0) rfl
    refine ⟨rv ga gb 0, ?_, by rw [HL.out], (set1_below (set1_below (set1_below HI.out.be (by omega)) (by omega)) (by omega)).trans (belowK_b (w := w) (Nat.le_refl _) _ D _ _ (by omega) hK' rfl rfl)⟩
    simp [results, Tryd.results14, go_sem, d0, d1, d2]
  case stop =>
    rintro D M N k W hD ⟨er, hI, hg⟩ hK
    gi_wp2
    refine ⟨by simp, .inl ⟨_, _, rfl, run_takeDeferred hK, ?_⟩⟩
    have n1 := block_put (D := D) (o' := .deferred none) hI.r (by omega)
    have n2 := block_put (D := D) (o' := .deferred none) hI.e (by omega)
    have d0 := cell_of_cells n1 (j := 0) rfl
    have d1 := cell_of_cells n1 (j := 1) rfl
    have d2 := cell_of_cells n2 (j := 0) rfl
    refine ⟨rv 0 0 er, ?_, by rw [hg], hI.be.trans (belowK_b (w := w) (Nat.le_refl _) _ D _ _ (by omega) hK rfl rfl)⟩
    simp [results, Tryd.results14, go_sem, d0, d1, d2]
end Go.Proofs.YtobhmiknlbjmkaaDoor
