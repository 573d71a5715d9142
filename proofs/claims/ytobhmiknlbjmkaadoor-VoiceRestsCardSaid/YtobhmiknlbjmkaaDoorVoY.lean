/-
  The contract of voice.Sounds: a range over the events with their places.
-/
import Derived.Test.YtobhmiknlbjmkaaDoorVoX
namespace Go.Proofs.YtobhmiknlbjmkaaDoor
open Go.RowKit Go.Shelf
attribute [local go_sem] Oper.semAt_some
open Evt (P3 Ev)
open Voi (R2 Sp Turns Lays Mine)

theorem spn_right {ys : List EM} {x : Sp} (h : x ∈ Voi.spn ys) (he : x.er = 0) : x.y ∈ ys ∧ Evt.IsR x.y.1 := by
  rcases spn_mem h with ⟨h1, _⟩ | ⟨_, hy⟩
  · exact absurd he h1
  refine ⟨hy, (Evt.right_iff _).1 ?_⟩
  unfold Voi.spn at h
  split at h
  · rename_i hc
    exact List.all_eq_true.1 (Voi.chk_ok_iff hc).2.2.1 _ (List.mem_map.2 ⟨_, hy, rfl⟩)
  · rename_i hc
    rcases List.mem_cons.1 h with rfl | h
    · exact absurd he hc
    · cases h
theorem marks_few {x : Ev} (h : Evt.IsR x) : x.ms.length ≤ 4 := by
  have h1 := h.marks
  have h2 := h.risen
  rcases hm : x.ms with _ | ⟨a, _ | ⟨b, _ | ⟨c, _ | ⟨d, _ | ⟨e, l⟩⟩⟩⟩⟩
  all_goals try (simp; done)
  exfalso
  rw [hm] at h1 h2
  have ha := h1 a (by simp)
  have he := h1 e (by simp)
  simp only [List.pairwise_cons] at h2
  have hab := h2.1 b (by simp)
  have hbc := h2.2.1 c (by simp)
  have hcd := h2.2.2.1 d (by simp)
  have hde := h2.2.2.2.1 e (by simp)
  omega
namespace Voi
theorem foldP {x : Sp} {td : List (P3 × Nat)} : ∀ (L : List Evt.PT) (a : St), (∀ q ∈ td, q.2 < a.1.length) → (∀ q ∈ a.2, q.2 < a.1.length) → a.1.length ≤ (L.foldl (addP x td) a).1.length ∧ (L.foldl (addP x td) a).1.length ≤ a.1.length + L.length ∧ ∀ q ∈ (L.foldl (addP x td) a).2, q.2 < (L.foldl (addP x td) a).1.length
  | [], a, _, h => ⟨Nat.le_refl _, by simp, h⟩
  | p :: L, a, h1, h2 => by
    have hl := addP_len x td a p
    have ih := foldP (x := x) (td := td) L (addP x td a p) (fun q hq => Nat.lt_of_lt_of_le (h1 q hq) hl.1) (fun q hq => by
      unfold addP at hq ⊢
      split at hq
      · rename_i n hn
        simp only [upd_length]
        split at hq
        · rcases List.mem_cons.1 hq with rfl | hq
          · exact h1 _ (tdAt_mem hn)
          · exact h2 q hq
        · exact h2 q hq
      · rename_i hn
        simp only [List.length_append, List.length_cons, List.length_nil]
        split at hq
        · rcases List.mem_cons.1 hq with rfl | hq
          · simp
          · have := h2 q hq; omega
        · have := h2 q hq; omega)
    rw [List.foldl_cons]
    refine ⟨Nat.le_trans hl.1 ih.1, ?_, ih.2.2⟩
    rw [List.length_cons]
    omega
theorem add_len {x : Sp} (hx : (Evt.pts x.y.1).length ≤ 8) (a : St) (h : ∀ q ∈ a.2, q.2 < a.1.length) : a.1.length ≤ (add x a).1.length ∧ (add x a).1.length ≤ a.1.length + 8 ∧ ∀ q ∈ (add x a).2, q.2 < (add x a).1.length := by
  have := foldP (x := x) (td := a.2) (Evt.pts x.y.1) (a.1, []) h (by simp)
  exact ⟨this.1, Nat.le_trans this.2.1 (by dsimp only; omega), this.2.2⟩
theorem runsOf_snoc (l : List Sp) (x : Sp) : runsOf (l ++ [x]) = add x (runsOf l) := by unfold runsOf; rw [List.foldl_append]; rfl
end Voi
/-- The memory of Sounds between two rounds. -/
structure SoI (w : World) (b R M : Nat) (rv : Value) (mo : Option Nat) (l : List RuM) (td : List (P3 × Nat)) (N : Nat) (W : World) : Prop where
  r : W.heap[R + 1]? = some (.cells #[.slice none 0 0] 28 (0, 0))
  e : W.heap[R + 1 + 1]? = some (.cells #[.int .i64 0] 29 (0, 0))
  rc : RecI W (R + 1 + 1 + 1) M N rv (.map mo) l td
  be : Below w.heap.size w W
  bM : b ≤ M
  bN : b ≤ N
structure SoX (w : World) (b R : Nat) (er : Int) (N : Nat) (W : World) : Prop where
  r : W.heap[R + 1]? = some (.cells #[.slice none 0 0] 28 (0, 0))
  e : W.heap[R + 1 + 1]? = some (.cells #[.int .i64 er] 29 (0, 0))
  be : Below w.heap.size w W
  bN : b ≤ N
theorem SoI.turn {w : World} {b R M N : Nat} {rv : Value} {mo : Option Nat} {l : List RuM} {td : List (P3 × Nat)} {A B : World} (h : SoI w b R M rv mo l td N A) (ht : Turns (Mine b M N) A B) (hs : N ≤ A.heap.size) (hR : R + 3 < b) (hw : w.heap.size ≤ b) : SoI w b R M rv mo l td N B :=
  ⟨ht.own h.r (by omega) h.bN, ht.own h.e (by omega) h.bN, h.rc.keep (Nat.le_refl _) (ht.block _ (lt_of_block h.rc.bx) (fun e => by have := h.bN; rcases e with e | e <;> omega)) (fun g h1 h2 => ht.block g (by omega) (fun e => by rcases e with e | e <;> omega)), Turns.below' h.be ht hw h.bN h.be.size, h.bM, h.bN⟩
theorem SoX.turn {w : World} {b R M N : Nat} {er : Int} {A B : World} (h : SoX w b R er N A) (ht : Turns (Mine b M N) A B) (hR : R + 2 < b) (hw : w.heap.size ≤ b) : SoX w b R er N B :=
  ⟨ht.own h.r (by omega) h.bN, ht.own h.e hR h.bN, Turns.below' h.be ht hw h.bN h.be.size, h.bN⟩
def SoRel (xs : List Sp) (w : World) (b R M N k : Nat) (W : World) : Prop := (∃ rv mo l td, SoI w b R M rv mo l td N W ∧ (l.map Prod.fst, td) = Voi.runsOf (xs.take k) ∧ l.length ≤ 8 * k ∧ (∀ q ∈ td, q.2 < l.length) ∧ N ≤ W.heap.size) ∧ ∀ y ∈ xs.take k, y.er = 0
def SoEnd (xs : List Sp) (w : World) (b R N : Nat) (W : World) : Prop := ∃ er, SoX w b R er N W ∧ er ≠ 0 ∧ Voi.errOf xs = er
/-- What Sounds answers. -/
def SoPost (xs : List Sp) (w : World) (ed : Ending) (w' : World) : Prop :=
  ((Voi.errOf xs ≠ 0 → ed = .returned (.tuple #[.slice none 0 0, .int .i64 (Voi.errOf xs)])) ∧
   (Voi.errOf xs = 0 → Voi.measE (Voi.runsOf xs).1 ≠ 0 → ed = .returned (.tuple #[.slice none 0 0, .int .i64 (Voi.measE (Voi.runsOf xs).1)])) ∧
   (Voi.errOf xs = 0 → Voi.measE (Voi.runsOf xs).1 = 0 → ∃ u l, ed = .returned (.tuple #[u, .int .i64 0]) ∧ Snds w' u l ∧ l.map Prod.fst = (Voi.runsOf xs).1.map Voi.sndOf)) ∧ Below w.heap.size w w'

set_option maxRecDepth 100000 in
set_option maxHeartbeats 40000000 in
theorem vsounds_any (v : Value) (ys : List EM) (w : World) (h : Evs w v ys) (hR : Ready w) :
    Calls Tryd.prog 12 #[.agg #[v]] w (SoPost (Voi.spn ys) w) := by
  have HC := Lib.hid h
  obtain ⟨p0, c0, rfl, hl0⟩ := sl_shape h.row
  clear h
  have HR := Lib.hid hR
  clear hR
  have hlen := Voi.spn_len ys
  refine (callsIn_wide (n := 3)).1 ?_
  refine callsIn_of_wp_marks Tryd.func12 rfl trivial ?_ rfl
  simp only [Tryd.ntmps12, List.size_toArray, List.length_cons, List.length_nil, Nat.reduceAdd, Nat.reduceSub, Array.replicate_succ, Array.replicate_zero, List.push_toArray, List.append_toArray, List.nil_append, List.cons_append]
  gi_wp2_with (refine ⟨trivial, ?_⟩; gi_at_call 27; refine (callsIn_wide.2 (spansF_any _ _)).mono ?_; rintro e w' ⟨rfl, rfl⟩)
  have hBw : Below w.heap.size w (((((w.alloc (.cells #[.slice p0 ys.length c0] 26)).alloc (.cells #[.slice none 0 0] 28)).alloc (.cells #[.int .i64 0] 29)).alloc (.cells #[.slice none 0 0, .map none] 81)).alloc (.cells #[.slice p0 ys.length c0] 26)) := by repeat (first | exact Below.refl _ _ | refine Below.alloc ?_ (by simp <;> omega) _)
  obtain ⟨u0, u1, u2, u3, u4⟩ := news5 w (.cells #[.slice p0 ys.length c0] 26) (.cells #[.slice none 0 0] 28) (.cells #[.int .i64 0] 29) (.cells #[.slice none 0 0, .map none] 81) (.cells #[.slice p0 ys.length c0] 26)
  have hsz : (((((w.alloc (.cells #[.slice p0 ys.length c0] 26)).alloc (.cells #[.slice none 0 0] 28)).alloc (.cells #[.int .i64 0] 29)).alloc (.cells #[.slice none 0 0, .map none] 81)).alloc (.cells #[.slice p0 ys.length c0] 26)).heap.size = w.heap.size + 5 := by simp
  have HI : Hid ((((((w.alloc (.cells #[.slice p0 ys.length c0] 26)).alloc (.cells #[.slice none 0 0] 28)).alloc (.cells #[.int .i64 0] 29)).alloc (.cells #[.slice none 0 0, .map none] 81)).alloc (.cells #[.slice p0 ys.length c0] 26)).heap[w.heap.size + 1]? = some (.cells #[.slice none 0 0] 28 (0, 0)) ∧ (((((w.alloc (.cells #[.slice p0 ys.length c0] 26)).alloc (.cells #[.slice none 0 0] 28)).alloc (.cells #[.int .i64 0] 29)).alloc (.cells #[.slice none 0 0, .map none] 81)).alloc (.cells #[.slice p0 ys.length c0] 26)).heap[w.heap.size + 1 + 1]? = some (.cells #[.int .i64 0] 29 (0, 0)) ∧ (((((w.alloc (.cells #[.slice p0 ys.length c0] 26)).alloc (.cells #[.slice none 0 0] 28)).alloc (.cells #[.int .i64 0] 29)).alloc (.cells #[.slice none 0 0, .map none] 81)).alloc (.cells #[.slice p0 ys.length c0] 26)).heap[w.heap.size + 1 + 1 + 1]? = some (.cells #[.slice none 0 0, .map none] 81 (0, 0))) := Lib.hid ⟨u1, u2, u3⟩
  clear u0 u1 u2 u3
  generalize (((((w.alloc (.cells #[.slice p0 ys.length c0] 26)).alloc (.cells #[.slice none 0 0] 28)).alloc (.cells #[.int .i64 0] 29)).alloc (.cells #[.slice none 0 0, .map none] 81)).alloc (.cells #[.slice p0 ys.length c0] 26)) = W0 at *
  have hz1 : w.heap.size + 5 ≤ W0.heap.size := by omega
  have hz2 : W0.heap.size ≤ w.heap.size + 5 := by omega
  clear hsz
  refine Voi.wpIn_rangeFunc_feeds rfl (by omega) (gf := 51) (lb := #[.pointer (some ⟨w.heap.size + 1 + 1 + 1 + 1, 0, none⟩)]) rfl trivial (enters_of Tryd.func51 (by kernel_rfl) rfl)
    (spans_feeds (3 - 1) (by omega) (w.heap.size + 1 + 1 + 1 + 1) _ ys w W0 HC.out HR.out hBw u4) (Below.refl _ _) (fun _ => rfl) (fun k hk => by rcases hk with h | h <;> omega)
    (fun M N k W => SoRel (Voi.spn ys) w W0.heap.size w.heap.size M N k W)
    (fun _ N _ W => SoEnd (Voi.spn ys) w W0.heap.size w.heap.size N W)
    (fun M N k A B h ht => by obtain ⟨⟨rv, mo, l, td, h1, h3, h4, h5, h6⟩, h2⟩ := h; exact ⟨⟨rv, mo, l, td, h1.turn ht h6 (by omega) (by omega), h3, h4, h5, Nat.le_trans h6 ht.size⟩, h2⟩)
    (fun M N k A B h ht => by obtain ⟨g, h1, h2⟩ := h; exact ⟨g, h1.turn ht (by omega) (by omega), h2⟩)
    (fun W' hW hz => ⟨⟨.slice none 0 0, none, [], [], by
      have hi := HI.out
      exact ⟨(hW.block _ (by omega)).trans hi.1, (hW.block _ (by omega)).trans hi.2.1, ⟨(hW.block _ (by omega)).trans hi.2.2, World.ownsRow_nil _ _ _ _, (fun g hg => by cases hg), (fun x hx => by cases hx), .inl ⟨rfl, rfl⟩⟩, below_two hBw hW, by omega, by omega⟩, rfl, Nat.zero_le _, (fun q hq => by cases hq), Nat.le_refl _⟩, fun y hy => by simp at hy⟩) ?round ?done ?stop
  case round =>
    rintro l M N k x W ⟨⟨rv, mo, lr, td, hI, hru, hlr, htd, hNs⟩, hg⟩ hx hM hMN hNW
    have HI := Lib.hid hI
    have HRU := Lib.hid hru
    have HTD := Lib.hid htd
    have HG := Lib.hid hg
    have HX := Lib.hid hx
    have hk : k < 64 := Nat.lt_of_lt_of_le (List.getElem?_eq_some_iff.1 hx).1 hlen
    clear hI hg hx hru htd
    have zb := HI.out.bN
    obtain ⟨ev, q1, n1, d1, q2, n2, d2, q3, n3, d3, hy⟩ := spn_shape HC.out (List.mem_of_getElem? HX.out)
    have hsr := Lib.hid (fun he => spn_right (List.mem_of_getElem? HX.out) he)
    obtain ⟨num, y, ⟨f0, f1⟩, ⟨x0, x1⟩, er⟩ := x
    dsimp only at hy
    subst hy
    dsimp only [Voi.encS]
    gi_wp2
    refine ⟨Lays.of_below ((Below.refl _ _).alloc (Nat.le_refl _) _), fun W'' hT hs => ?_⟩
    have SB := Lib.hid (hT.at (block_new W _) (fun e => by omega))
    have hI2 : SoI w W0.heap.size w.heap.size M rv mo lr td N W'' := (HI.out.turn (M := M) (Turns.of_below ((Below.refl _ _).alloc (Nat.le_refl _) _)) hNs (by omega) (by omega)).turn hT.mine (by simp; omega) (by omega) (by omega)
    have H2 := Lib.hid hI2
    have zW := lt_of_block SB.out
    by_cases he : er = 0
    · subst he
      obtain ⟨hyy, hIR⟩ := hsr.out rfl
      try dsimp only at hyy hIR
      have hER := HC.out.each _ hyy
      dsimp only at hER
      have hsp := evs_shape (y := (ev, Value.slice q1 n1 d1, Value.slice q2 n2 d2, Value.slice q3 n3 d3)) hER
      obtain ⟨_, _, _, _, _, _, hsh⟩ := hsp
      have e1 : n1 = ev.ps.length := by have := congrArg (fun z : EM => z.2.1) hsh; simp at this; exact this.2.1
      have e2 : n2 = ev.ts.length := by have := congrArg (fun z : EM => z.2.2.1) hsh; simp at this; exact this.2.1
      have e3 : n3 = ev.ms.length := by have := congrArg (fun z : EM => z.2.2.2) hsh; simp at this; exact this.2.1
      subst e1 e2 e3
      obtain ⟨kd, ps, ts, b, d, n, e0, ms, str⟩ := ev
      dsimp only at hER hIR SB HX
      clear hsh
      have s0 := cell_of_cells SB.out (j := 0) rfl
      have s1 := cell_of_cells SB.out (j := 1) rfl
      have s2 := cell_of_cells SB.out (j := 2) rfl
      have s3 := cell_of_cells SB.out (j := 3) rfl
      have s4 := cell_of_cells SB.out (j := 4) rfl
      have s5 := cell_of_cells SB.out (j := 5) rfl
      have s6 := cell_of_cells SB.out (j := 6) rfl
      have s7 := cell_of_cells SB.out (j := 7) rfl
      have s8 := cell_of_cells SB.out (j := 8) rfl
      have s9 := cell_of_cells SB.out (j := 9) rfl
      have s10 := cell_of_cells SB.out (j := 10) rfl
      have s11 := cell_of_cells SB.out (j := 11) rfl
      have s12 := cell_of_cells SB.out (j := 12) rfl
      have s13 := cell_of_cells SB.out (j := 13) rfl
      have hc := add_call w W'' (w.heap.size + 1 + 1 + 1) M rv mo lr td num kd b d n e0 f0 f1 x0 x1 ps ts ms str q1 q2 q3 d1 d2 d3 (H2.out.rc.mono (by omega)) hER hIR H2.out.be (by omega) (by have := H2.out.bM; omega) (by have := H2.out.bM; omega) (by omega) (by omega) (by have := marks_few hIR; dsimp only at this; omega) HTD.out
      have HCL := Lib.hid hc
      have hP8 : (Evt.pts (⟨kd, ps, ts, b, d, n, e0, ms, str⟩ : Ev)).length ≤ 8 := by unfold Evt.pts; rw [List.length_zip]; have := hIR.max8; dsimp only at this ⊢; omega
      clear hI2 hs hT hc hER hIR hyy
      gi_wp2_with fail
      refine ⟨trivial, ?_⟩
      refine (CallsIn.inRound l (callsIn_wide.2 HCL.out)).mono ?_
      rintro e W6 ⟨rfl, rv', mv', l', td', hrc, heq, htu⟩
      have hHR := Lib.hid hrc
      have hHE := Lib.hid heq
      have hHT := Lib.hid htu
      clear HCL hrc heq htu
      gi_wp2
      have hrow : ∀ j, rv.ownBlock = some j → M ≤ j ∧ j < N := fun j hj => ⟨(H2.out.rc.row.lt j hj).1, H2.out.rc.rN j hj⟩
      have hne : ∀ j, (j < w.heap.size ∨ j = w.heap.size + 1 + 1 + 1 + 1) ∨ Mine W0.heap.size M N j → ¬ (j = w.heap.size + 1 + 1 + 1 ∨ rv.ownBlock = some j) := fun j hj e => by
        rcases e with e | e
        · rcases hj with (h | h) | h | h <;> omega
        · have := hrow j e
          rcases hj with (h | h) | h | h <;> omega
      have nb : ∀ j, j < W0.heap.size → j ≠ w.heap.size + 1 + 1 + 1 → ¬ (j = w.heap.size + 1 + 1 + 1 ∨ rv.ownBlock = some j) := fun j h1 h2 e => by
        rcases e with e | e
        · exact h2 e
        · have := hrow j e; omega
      have hst := Voi.add_len (x := ⟨num, ((⟨kd, ps, ts, b, d, n, e0, ms, str⟩ : Ev), Value.slice q1 ps.length d1, Value.slice q2 ts.length d2, Value.slice q3 ms.length d3), (f0, f1), (x0, x1), 0⟩) hP8 (lr.map Prod.fst, td) (by rw [List.length_map]; exact HTD.out)
      rw [← hHE.out, List.length_map, List.length_map] at hst
      obtain ⟨mo', hmo⟩ : ∃ mo', mv' = .map mo' := by
        rcases hHR.out.td with ⟨e, _⟩ | ⟨b', _, _, e, _⟩
        · exact ⟨_, e⟩
        · exact ⟨_, e⟩
      subst hmo
      have hz6 := hHT.out.size
      refine ⟨Lays.of_turns hHT.out hne, ⟨rv', mo', l', td', ⟨hHT.out.at H2.out.r (nb _ (by omega) (by omega)), hHT.out.at H2.out.e (nb _ (by omega) (by omega)), hHR.out, H2.out.be.trans (hHT.out.below (fun j e => ?_) H2.out.be.size), H2.out.bM, by omega⟩, ?_, by omega, hst.2.2, Nat.le_refl _⟩, Voi.ok_take HG.out HX.out rfl⟩
      · rcases e with e | e
        · omega
        · have := hrow j e; omega
      · rw [take_succ_at HX.out, Voi.runsOf_snoc, ← HRU.out]
        exact hHE.out
    · have c0 := cell_of_cells hI2.r (j := 0) rfl
      have c1 := cell_of_cells hI2.e (j := 0) rfl
      have g0 := frozen_of_cells hI2.r (j := 0)
      have g1 := frozen_of_cells hI2.e (j := 0)
      have zsr1 : w.heap.size + 1 < W.heap.size := by omega
      have zsr2 : w.heap.size + 1 + 1 < W.heap.size := by omega
      clear hI2 hs hT
      have hne : (er != 0) = true := by simpa using he
      have HE := Lib.hid he
      clear he hsr
      gi_wp2
      have hne : ∀ j, (j < w.heap.size ∨ j = w.heap.size + 1 + 1 + 1 + 1) ∨ Mine W0.heap.size M N j → j ≠ w.heap.size + 1 ∧ j ≠ w.heap.size + 1 + 1 := fun j hj => by rcases hj with (h | h) | h | h <;> omega
      refine ⟨(Lays.set _ _ (fun h => (hne _ h).1 rfl)).trans (Lays.set _ _ (fun h => (hne _ h).2 rfl)), er, ⟨?_, ?_, ?_, ?_⟩, HE.out, Voi.errOf_stop HG.out HX.out HE.out⟩
      · exact block_far (cells_set1 H2.out.r) (by omega)
      · exact cells_set1 (block_far H2.out.e (by omega))
      · exact set1_below (set1_below H2.out.be (by omega)) (by omega)
      · simp; omega
  case done =>
    rintro D M N W ⟨hD, hDM⟩ ⟨⟨rv, mo, lr, td, hI, hru, hlr, htd, hNs⟩, hg⟩ hK
    rw [List.take_length] at hru hg
    have hl : Voi.errOf (Voi.spn ys) = 0 := Voi.errOf_ok hg
    obtain ⟨pv, cv, rfl⟩ := own_shape3 hI.rc.row
    have k2 := cell_of_cells hI.rc.bx (j := 0) rfl
    have k3 := cell_of_cells hI.rc.bx (j := 1) rfl
    have HI := Lib.hid hI
    have HL := Lib.hid hl
    have HRS : Hid (lr.map Prod.fst = (Voi.runsOf (Voi.spn ys)).1) := Lib.hid (congrArg Prod.fst hru)
    have hlr6 : lr.length ≤ 1000000 := by omega
    have HMS := Lib.hid (measured_any (.slice pv lr.length cv) lr W ⟨row_sl lenRu rfl (by omega) hI.rc.row, fun x hx => (hI.rc.mks x hx).1⟩ hlr6)
    clear hI hl hg hru
    gi_wp2_with fail
    refine ⟨trivial, ?_⟩
    refine (callsIn_wide.2 HMS.out).mono ?_
    rintro e W6 ⟨⟨hm0, hm1⟩, hb6⟩
    have HM0 := Lib.hid hm0
    have HM1 := Lib.hid hm1
    clear hm0 hm1 HMS
    have hK6 := (hb6.block D (Array.getElem?_eq_some_iff.1 hK).1).trans hK
    have hr6 := (hb6.block _ (lt_of_block HI.out.r)).trans HI.out.r
    have he6 := (hb6.block _ (lt_of_block HI.out.e)).trans HI.out.e
    have k0 := cell_of_cells hr6 (j := 0) rfl
    have k1 := cell_of_cells he6 (j := 0) rfl
    have g0 := frozen_of_cells hr6 (j := 0)
    have g1 := frozen_of_cells he6 (j := 0)
    have hBe6 : Below w.heap.size w W6 := HI.out.be.trans (hb6.mono HI.out.be.size)
    have HR6 := Lib.hid hr6
    have HE6 := Lib.hid he6
    have hbM := HI.out.bM
    have hz6 := hb6.size
    clear hr6 he6 k2 k3
    obtain ⟨E, hE⟩ : ∃ E, Voi.measE (lr.map Prod.fst) = E := ⟨_, rfl⟩
    have HME := Lib.hid hE
    rw [hE] at HM0 HM1
    clear hE
    by_cases hE0 : E = 0
    · subst hE0
      obtain ⟨u, rfl, hsn, how⟩ := HM0.out rfl
      obtain ⟨pu, cu, hu, _⟩ := sl_shape hsn.row
      rw [List.length_map] at hu
      subst hu
      have HSN := Lib.hid hsn
      have HOW := Lib.hid how
      clear HM0 HM1 hsn how
      gi_wp2
      have hK' : ((W6.setCell ⟨w.heap.size + 1, 0, none⟩ (.slice pu lr.length cu)).setCell ⟨w.heap.size + 1 + 1, 0, none⟩ (.int .i64 0)).heap[D]? = some (.deferred (some [])) := block_far (block_far hK6 (by omega)) (by omega)
      refine ⟨by simp, .inl ⟨_, _, rfl, run_takeDeferred hK', ?_⟩⟩
      have n1 := block_put (D := D) (o' := .deferred none) (block_far (B := w.heap.size + 1 + 1) (q := 0) (x := .int .i64 0) (cells_set1 (x := .slice pu lr.length cu) HR6.out) (by omega)) (by omega)
      have n2 := block_put (D := D) (o' := .deferred none) (cells_set1 (x := .int .i64 0) (block_far (B := w.heap.size + 1) (q := 0) (x := .slice pu lr.length cu) HE6.out (by omega))) (by omega)
      have d0 := cell_of_cells n1 (j := 0) rfl
      have d1 := cell_of_cells n2 (j := 0) rfl
      have far : ∀ g, g ≠ w.heap.size + 1 → g ≠ w.heap.size + 1 + 1 → g ≠ D → (((W6.setCell ⟨w.heap.size + 1, 0, none⟩ (.slice pu lr.length cu)).setCell ⟨w.heap.size + 1 + 1, 0, none⟩ (.int .i64 0)).putObj D (.deferred none)).heap[g]? = W6.heap[g]? := fun g h1 h2 h3 => (World.putObj_heap_other h3).trans ((Below.heap_setCell _ _ _ _ h2).trans (Below.heap_setCell _ _ _ _ h1))
      have zD := lt_of_block hK
      have hS6 : Snds (((W6.setCell ⟨w.heap.size + 1, 0, none⟩ (.slice pu lr.length cu)).setCell ⟨w.heap.size + 1 + 1, 0, none⟩ (.int .i64 0)).putObj D (.deferred none)) (.slice pu lr.length cu) (lr.map soOf) := ⟨HSN.out.row.block (fun g hg => by have := HOW.out g hg; exact far g (by omega) (by omega) (by omega)), fun z hz => by
        obtain ⟨z0, hz0, e⟩ := List.mem_map.1 hz
        refine (HSN.out.each z hz).block (fun g hg => ?_)
        have e2 : z.2 = z0.2 := by rw [← e]; rfl
        have hm := (HI.out.rc.mks z0 hz0).2 g (e2 ▸ hg)
        exact far g (by omega) (by omega) (by omega)⟩
      refine ⟨.tuple #[.slice pu lr.length cu, .int .i64 0], ?_, ⟨fun h => absurd HL.out h, fun _ h => absurd (by rw [← HRS.out]; exact HME.out) h, fun _ _ => ⟨_, lr.map soOf, rfl, hS6, by rw [← HRS.out, List.map_map, List.map_map]; rfl⟩⟩, (set1_below (set1_below hBe6 (by omega)) (by omega)).trans (belowK_b (w := w) (Nat.le_refl _) _ D _ _ (by omega) hK' rfl rfl)⟩
      simp [results, Tryd.results12, go_sem, d0, d1]
    · obtain rfl := HM1.out hE0
      have HE0 := Lib.hid hE0
      clear HM0 HM1 hE0
      gi_wp2
      have hK' : ((W6.setCell ⟨w.heap.size + 1, 0, none⟩ (.slice none 0 0)).setCell ⟨w.heap.size + 1 + 1, 0, none⟩ (.int .i64 E)).heap[D]? = some (.deferred (some [])) := block_far (block_far hK6 (by omega)) (by omega)
      refine ⟨by simp, .inl ⟨_, _, rfl, run_takeDeferred hK', ?_⟩⟩
      have n1 := block_put (D := D) (o' := .deferred none) (block_far (B := w.heap.size + 1 + 1) (q := 0) (x := .int .i64 E) (cells_set1 (x := .slice none 0 0) HR6.out) (by omega)) (by omega)
      have n2 := block_put (D := D) (o' := .deferred none) (cells_set1 (x := .int .i64 E) (block_far (B := w.heap.size + 1) (q := 0) (x := .slice none 0 0) HE6.out (by omega))) (by omega)
      have d0 := cell_of_cells n1 (j := 0) rfl
      have d1 := cell_of_cells n2 (j := 0) rfl
      refine ⟨.tuple #[.slice none 0 0, .int .i64 E], ?_, ⟨fun h => absurd HL.out h, fun _ _ => by rw [← HRS.out, HME.out], fun _ h => absurd (HME.out.symm.trans ((by rw [HRS.out] : Voi.measE (lr.map Prod.fst) = _).trans h)) HE0.out⟩, (set1_below (set1_below hBe6 (by omega)) (by omega)).trans (belowK_b (w := w) (Nat.le_refl _) _ D _ _ (by omega) hK' rfl rfl)⟩
      simp [results, Tryd.results12, go_sem, d0, d1]
  case stop =>
    rintro D M N k W hD ⟨er, hI, hne, hg⟩ hK
    gi_wp2
    refine ⟨by simp, .inl ⟨_, _, rfl, run_takeDeferred hK, ?_⟩⟩
    have d0 := cell_of_cells (block_put (D := D) (o' := .deferred none) hI.r (by omega)) (j := 0) rfl
    have d1 := cell_of_cells (block_put (D := D) (o' := .deferred none) hI.e (by omega)) (j := 0) rfl
    refine ⟨.tuple #[.slice none 0 0, .int .i64 er], ?_, ⟨fun _ => by rw [hg], fun h => absurd (hg.symm.trans h) hne, fun h => absurd (hg.symm.trans h) hne⟩, hI.be.trans (belowK_b (w := w) (Nat.le_refl _) _ D _ _ (by omega) hK rfl rfl)⟩
    simp [results, Tryd.results12, go_sem, d0, d1]
end Go.Proofs.YtobhmiknlbjmkaaDoor
