/-
  The contract of key.class.
-/
import Derived.Test.YtahcbgngdpjhkaaDoorKeyG
namespace Go.Proofs.YtahcbgngdpjhkaaDoor
open Go.RowKit Go.Shelf
attribute [local go_sem] Oper.semAt_some

/-- The two results' blocks, as they may be written. -/
structure Res (W : World) (B C : Nat) : Prop where
  c0 : W.cell? ⟨B, 0, none⟩ = some (heldAt W ⟨B, 0, none⟩)
  c1 : W.cell? ⟨B, 1, none⟩ = some (heldAt W ⟨B, 1, none⟩)
  c2 : W.cell? ⟨B, 2, none⟩ = some (heldAt W ⟨B, 2, none⟩)
  d0 : W.cell? ⟨C, 0, none⟩ = some (heldAt W ⟨C, 0, none⟩)
  f0 : W.frozen? ⟨B, 0, none⟩ = false
  f1 : W.frozen? ⟨B, 1, none⟩ = false
  f2 : W.frozen? ⟨B, 2, none⟩ = false
  g0 : W.frozen? ⟨C, 0, none⟩ = false
theorem Res.kept {W W' : World} {row : Option Nat} {B C : Nat} (h : Res W B C) (hg : W.grownBy W' row) (hr : ∀ r, row = some r → ∃ o : Obj, W.heap[r]? = some o ∧ o.isCells = false) : Res W' B C :=
  ⟨held_of (cell_kept h.c0 hg hr), held_of (cell_kept h.c1 hg hr), held_of (cell_kept h.c2 hg hr), held_of (cell_kept h.d0 hg hr), (frozen_kept h.c0 hg hr).trans h.f0, (frozen_kept h.c1 hg hr).trans h.f1, (frozen_kept h.c2 hg hr).trans h.f2, (frozen_kept h.d0 hg hr).trans h.g0⟩
theorem Res.put {W : World} {B C : Nat} {x y z : Int} {v : Value} (h : Res W B C) (hBC : B ≠ C) :
    Pt3 ((put3 W B (.int .i64 x) (.int .i64 y) (.int .i64 z)).setCell ⟨C, 0, none⟩ v).drew B x y z ∧ ((put3 W B (.int .i64 x) (.int .i64 y) (.int .i64 z)).setCell ⟨C, 0, none⟩ v).drew.cell? ⟨C, 0, none⟩ = some v ∧ KeepsOthers W ((put3 W B (.int .i64 x) (.int .i64 y) (.int .i64 z)).setCell ⟨C, 0, none⟩ v).drew := by
  obtain ⟨m0, m1, m2⟩ := put3_of (x := .int .i64 x) (y := .int .i64 y) (z := .int .i64 z) h.c0 h.c1 h.c2
  refine ⟨⟨cell_drew (set_far hBC m0), cell_drew (set_far hBC m1), cell_drew (set_far hBC m2)⟩, cell_drew (set_same (set_held (set_held (set_held h.d0)))), ?_⟩
  exact ((((KeepsOthers.setCell _ _ _).trans (KeepsOthers.setCell _ _ _)).trans (KeepsOthers.setCell _ _ _)).trans (KeepsOthers.setCell _ _ _)).trans (KeepsOthers.drew _)
theorem Res.later {W W' : World} {B C : Nat} (h : Res W B C) (hb : Below W.heap.size W W') : Res W' B C := h.kept (grown_of_below hb) (fun _ e => by cases e)
set_option maxRecDepth 100000 in
set_option maxHeartbeats 4000000 in
theorem class_any (f : Int) (m : Bool) (n : Int) (w : World) (hR : Ready w) (h0 : -7 ≤ f) (h7 : f ≤ 7) (n0 : 0 ≤ n) (n1 : n ≤ 127) (p : Int) (HP : Hid (Key.cls f n = some p)) :
    Calls Tryd.prog 42 #[ky f m, .int .i64 n] w fun e w' => e = .returned (.tuple #[pt (Key.st p) (Key.al p) 4, .int .i64 ((n - Key.nm p).tdiv 12)]) ∧ Below w.heap.size w w' := by
  refine (callsIn_wide (n := 3)).1 ?_
  refine callsIn_of_wp_marks Tryd.func42 rfl trivial ?_ rfl
  simp only [Tryd.ntmps42, List.size_toArray, List.length_cons, List.length_nil, Nat.reduceAdd, Nat.reduceSub, Array.replicate_succ, Array.replicate_zero, List.push_toArray, List.append_toArray, List.nil_append, List.cons_append]
  gi_wp2_with (refine ⟨trivial, ?_⟩; gi_at_call 57; refine (callsIn_wide.2 (lineF_any (f - 5) (f + 6) _)).mono ?_; rintro e w' ⟨rfl, rfl⟩)
  have hBw : Below w.heap.size w ((((((w.alloc (.cells #[.int .i64 f, .bool m] 23)).alloc (.cells #[.int .i64 n] 3)).alloc (.cells #[.int .i64 0, .int .i64 0, .int .i64 0] 42)).alloc (.cells #[.int .i64 0] 3)).alloc (.cells #[.int .i64 (f - 5)] 3)).alloc (.cells #[.int .i64 (f + 6)] 3)) := by repeat (first | exact Below.refl _ _ | refine Below.alloc ?_ (by simp <;> omega) _)
  have c_n : ((((((w.alloc (.cells #[.int .i64 f, .bool m] 23)).alloc (.cells #[.int .i64 n] 3)).alloc (.cells #[.int .i64 0, .int .i64 0, .int .i64 0] 42)).alloc (.cells #[.int .i64 0] 3)).alloc (.cells #[.int .i64 (f - 5)] 3)).alloc (.cells #[.int .i64 (f + 6)] 3)).cell? ⟨w.heap.size + 1, 0, none⟩ = some (.int .i64 n) := by go_simp
  have c_r : Res ((((((w.alloc (.cells #[.int .i64 f, .bool m] 23)).alloc (.cells #[.int .i64 n] 3)).alloc (.cells #[.int .i64 0, .int .i64 0, .int .i64 0] 42)).alloc (.cells #[.int .i64 0] 3)).alloc (.cells #[.int .i64 (f - 5)] 3)).alloc (.cells #[.int .i64 (f + 6)] 3)) (w.heap.size + 1 + 1) (w.heap.size + 1 + 1 + 1) := by constructor <;> first | (refine held_of (v := .int .i64 0) ?_; go_simp) | go_simp
  have c_a : ((((((w.alloc (.cells #[.int .i64 f, .bool m] 23)).alloc (.cells #[.int .i64 n] 3)).alloc (.cells #[.int .i64 0, .int .i64 0, .int .i64 0] 42)).alloc (.cells #[.int .i64 0] 3)).alloc (.cells #[.int .i64 (f - 5)] 3)).alloc (.cells #[.int .i64 (f + 6)] 3)).cell? ⟨w.heap.size + 1 + 1 + 1 + 1, 0, none⟩ = some (.int .i64 (f - 5)) := by go_simp
  have c_b : ((((((w.alloc (.cells #[.int .i64 f, .bool m] 23)).alloc (.cells #[.int .i64 n] 3)).alloc (.cells #[.int .i64 0, .int .i64 0, .int .i64 0] 42)).alloc (.cells #[.int .i64 0] 3)).alloc (.cells #[.int .i64 (f - 5)] 3)).alloc (.cells #[.int .i64 (f + 6)] 3)).cell? ⟨w.heap.size + 1 + 1 + 1 + 1 + 1, 0, none⟩ = some (.int .i64 (f + 6)) := by go_simp
  have hsz : ((((((w.alloc (.cells #[.int .i64 f, .bool m] 23)).alloc (.cells #[.int .i64 n] 3)).alloc (.cells #[.int .i64 0, .int .i64 0, .int .i64 0] 42)).alloc (.cells #[.int .i64 0] 3)).alloc (.cells #[.int .i64 (f - 5)] 3)).alloc (.cells #[.int .i64 (f + 6)] 3)).heap.size = w.heap.size + 6 := by simp
  generalize ((((((w.alloc (.cells #[.int .i64 f, .bool m] 23)).alloc (.cells #[.int .i64 n] 3)).alloc (.cells #[.int .i64 0, .int .i64 0, .int .i64 0] 42)).alloc (.cells #[.int .i64 0] 3)).alloc (.cells #[.int .i64 (f - 5)] 3)).alloc (.cells #[.int .i64 (f + 6)] 3)) = W0 at *
  refine wpIn_rangeFunc_ownH rfl (by omega) (gf := 67) (lb := #[.pointer (some ⟨w.heap.size + 1 + 1 + 1 + 1, 0, none⟩), .pointer (some ⟨w.heap.size + 1 + 1 + 1 + 1 + 1, 0, none⟩)]) rfl trivial (enters_of Tryd.func67 (by kernel_rfl) rfl)
    (line_stops (3 - 1) (by omega) _ _ W0.heap.size (f - 5) (f + 6) 12 (by omega) (by omega) (Lib.hid (by omega)) (by omega) W0 (Nat.le_refl _) c_a c_b)
    belowK_t (belowK_b (Nat.le_refl _)) (Below.refl _ _) (fun _ => rfl)
    (fun pre W => ((∀ y ∈ pre, Key.hit n y = false) ∧ W.cell? ⟨w.heap.size + 1, 0, none⟩ = some (.int .i64 n) ∧ Res W (w.heap.size + 1 + 1) (w.heap.size + 1 + 1 + 1) ∧ W0.heap.size ≤ W.heap.size) ∧ Below w.heap.size w W)
    (fun c pre W => (c = .ret ∧ ∃ ini last, pre = ini ++ [last] ∧ (∀ y ∈ ini, Key.hit n y = false) ∧ Key.hit n last = true ∧ Pt3 W (w.heap.size + 1 + 1) (Key.st last) (Key.al last) 4 ∧ W.cell? ⟨w.heap.size + 1 + 1 + 1, 0, none⟩ = some (.int .i64 ((n - Key.nm last).tdiv 12))) ∧ Below w.heap.size w W)
    (OwnFrom.and (Own.from (fun s A B row hs hg hr => ⟨hs.1, cell_kept hs.2.1 hg hr, hs.2.2.1.kept hg hr, Nat.le_trans hs.2.2.2 hg.size⟩) _) (ownFrom_below (Nat.le_refl _) (by omega)))
    (fun c => OwnFrom.and (Own.from (fun s A B row hs hg hr => by obtain ⟨hc, ini, last, e1, e2, e3, e4, e5⟩ := hs; exact ⟨hc, ini, last, e1, e2, e3, e4.kept hg hr, cell_kept e5 hg hr⟩) _) (ownFrom_below (Nat.le_refl _) (by omega)))
    ⟨⟨by simp, c_n, c_r, Nat.le_refl _⟩, hBw⟩
    (fun x a' W => ∃ Bx, Pt3 W Bx (Key.st x) (Key.al x) 4 ∧ a' = { tmps := #[ky f m, .int .i64 n, .pointer (some ⟨w.heap.size, 0, none⟩), .pointer (some ⟨w.heap.size + 1, 0, none⟩), .pointer (some ⟨w.heap.size + 1 + 1, 0, none⟩), .pointer (some ⟨w.heap.size + 1 + 1 + 1, 0, none⟩), .pointer (some ⟨Bx, 0, none⟩), undef, undef, .pointer (some ⟨w.heap.size, 0, none⟩), .int .i64 f, .int .i64 (f - 5), .pointer (some ⟨w.heap.size, 0, none⟩), .int .i64 f, .int .i64 (f + 6), .func (.func 67) #[] #[.pointer (some ⟨w.heap.size + 1 + 1 + 1 + 1, 0, none⟩), .pointer (some ⟨w.heap.size + 1 + 1 + 1 + 1 + 1, 0, none⟩)], pt (Key.st x) (Key.al x) 4, undef, undef, undef, undef, undef, undef, undef, undef, undef, undef, undef, undef, undef, undef, undef, undef], defers := [] })
    (fun x a' s A B row hs hg hr => by obtain ⟨Bx, g2, g3⟩ := hs; exact ⟨Bx, g2.kept hg (fun r e => (hr r e).2), g3⟩) ?assign ?body ?done ?stop
  case assign =>
    rintro l pre x W K ⟨⟨i1, i2, i3, i5⟩, hB⟩ hK
    gi_wp2
    exact hK _ _ ((KeepsOthers.alloc _ _).from _) ((Below.refl _ W).alloc i5 _) ⟨⟨i1, alloc_cell i2, i3.later ((Below.refl _ W).alloc (Nat.le_refl _) _), by simp; omega⟩, hB.alloc hB.size _⟩ ⟨W.heap.size, ⟨by go_simp, by go_simp, by go_simp⟩, rfl⟩
  case body =>
    rintro l pre x a' W hl ⟨r, hr⟩ ⟨⟨i1, i2, i3, i5⟩, hB⟩ ⟨Bx, ⟨p0, p1, p2⟩, rfl⟩ hlt
    have hN := numberE (Key.st x) (Key.al x) 4 W (hR.below hB)
    change Calls Tryd.prog 33 #[pt (Key.st x) (Key.al x) 4] W (fun e w' => e = .returned (.tuple #[.int .i64 (Key.nm x), .int .i64 (errP (Pit.right (Key.st x) (Key.al x) 4))]) ∧ Below W.heap.size W w') at hN
    have HN := Lib.hid hN
    clear hN
    have hnb := Key.nm_bounds x
    have HH : Hid (Key.hit n x = ((n - Key.nm x).tmod 12 == 0)) := Lib.hid rfl
    obtain ⟨q, HQQ⟩ : ∃ q, Hid (Key.nm x = q) := ⟨_, Lib.hid rfl⟩
    rw [HQQ.out] at HN hnb HH
    gi_wp2_with (refine ⟨trivial, ?_⟩; gi_at_call 33; refine (CallsIn.inRound l (callsIn_wide.2 HN.out)).mono ?_; rintro e W2 ⟨rfl, hq⟩; replace i2 := cell_later hq i2; replace i3 := i3.later hq; replace p0 := cell_later hq p0; replace p1 := cell_later hq p1; replace p2 := cell_later hq p2)
    · have hx : ((n - q).tmod 12 == 0) = true := by assumption
      obtain ⟨r1, r2, r3⟩ := i3.put (x := Key.st x) (y := Key.al x) (z := 4) (v := .int .i64 ((n - q).tdiv 12)) (show w.heap.size + 1 + 1 ≠ w.heap.size + 1 + 1 + 1 by omega)
      have HQ : Hid (IntKind.i64.wrap ((IntKind.i64.wrap (n - q)).tdiv 12) = (n - q).tdiv 12) := Lib.hid (by
        rw [IntWalk.i64_in (n - q) (by omega)]
        have := Int.mul_tdiv_add_tmod (n - q) 12
        have := Int.tmod_lt_of_pos (n - q) (show (0 : Int) < 12 by decide)
        have := Int.lt_tmod_of_pos (n - q) (show (0 : Int) < 12 by decide)
        exact IntWalk.i64_in _ (by omega))
      have HX : Hid (Key.hit n x = true) := Lib.hid (by rw [HH.out]; exact hx)
      have R1 := Lib.hid r1
      have R2 := Lib.hid (r2.trans (congrArg (fun t => some (Value.int .i64 ((n - t).tdiv 12))) HQQ.out.symm))
      have R3 := Lib.hid (((others_below hq).trans r3).from W0.heap.size)
      have R4 := Lib.hid (((((below_two hB hq).setCell (p := ⟨w.heap.size + 1 + 1, 0, none⟩) (by simp; omega) (.int .i64 (Key.st x))).setCell (p := ⟨w.heap.size + 1 + 1, 1, none⟩) (by simp; omega) (.int .i64 (Key.al x))).setCell (p := ⟨w.heap.size + 1 + 1, 2, none⟩) (by simp; omega) (.int .i64 4)).setCell (p := ⟨w.heap.size + 1 + 1 + 1, 0, none⟩) (by simp; omega) (.int .i64 ((n - q).tdiv 12))).drew
      clear r1 r2 r3
      obtain ⟨c0, c1, c2, d0, f0, f1, f2, g0⟩ := i3
      have hmx : Tryd.prog.follows .mixedOrders = true := by kernel_rfl
      gi_region_o
      all_goals gi_wp2
      all_goals rw [HQ.out]
      all_goals (refine ⟨?_, ⟨rfl, pre, x, rfl, i1, HX.out, ?_, ?_⟩, ?_⟩)
      all_goals first | (with_reducible exact R1.out) | (with_reducible exact R2.out) | (with_reducible exact R3.out) | (with_reducible exact R4.out)
    · rename_i hx
      exact ⟨(others_below hq).from _, hq.mono i5, ⟨fun y hy => (List.mem_append.1 hy).elim (i1 y) (fun e => by simp at e; subst e; rw [HH.out]; simpa using hx), i2, i3, Nat.le_trans i5 hq.size⟩, below_two hB hq⟩
  case done =>
    rintro D ys W hD rfl ⟨⟨i1, i2, i3, i5⟩, hB⟩ hK
    exfalso
    have := HP.out
    unfold Key.cls Key.clsL at this
    rw [find_none i1] at this
    cases this
  case stop =>
    rintro D c pre W hD ⟨k, hk, hpre⟩ ⟨⟨rfl, ini, last, e1, e2, e3, e4, e5⟩, hB⟩ hK
    obtain rfl : last = p := by
      have := HP.out
      unfold Key.cls Key.clsL at this
      rw [find_at (places_prefix _ hk) (hpre ▸ e1) e2 e3] at this
      exact Option.some.inj this
    gi_wp2
    refine ⟨by simp, .inl ⟨_, _, rfl, run_takeDeferred hK, ?_⟩⟩
    have hr0 : ∀ r, some D = some r → ∃ o : Obj, W.heap[r]? = some o ∧ o.isCells = false := fun r e => by cases e; exact ⟨_, hK, rfl⟩
    have hc5 := cell_kept e5 (grownBy_putObj' _ D (.deferred none)) hr0
    obtain ⟨m0, m1, m2⟩ := e4.kept (grownBy_putObj' _ D (.deferred none)) hr0
    refine ⟨.tuple #[pt (Key.st last) (Key.al last) 4, .int .i64 ((n - Key.nm last).tdiv 12)], ?_, rfl, hB.trans (belowK_b (w := w) (Nat.le_refl _) W D _ _ (by omega) hK rfl rfl)⟩
    simp [results, Tryd.results42, go_sem, hc5, m0, m1, m2]
end Go.Proofs.YtahcbgngdpjhkaaDoor
