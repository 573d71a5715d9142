/-
  The contracts of key.signed and Alter.
-/
import Derived.Test.YtahcbgngdpjhkaaDoorKeyE
namespace Go.Proofs.YtahcbgngdpjhkaaDoor
open Go.RowKit Go.Shelf
attribute [local go_sem] Oper.semAt_some

theorem places_prefix (a : Int) {k n : Nat} (h : k ≤ n) : Key.places a k <+: Key.places a n := by
  obtain ⟨d, rfl⟩ := Nat.exists_eq_add_of_le h
  clear h
  induction d with
  | zero => exact List.prefix_refl _
  | succ d ih => rw [← Nat.add_assoc, places_succ]; exact ih.trans (List.prefix_append _ _)
theorem find_at {α : Type} {P : α → Bool} {pre xs ini : List α} {last : α} (hp : pre <+: xs) (he : pre = ini ++ [last]) (hn : ∀ y ∈ ini, P y = false) (hl : P last = true) : xs.find? P = some last := by
  obtain ⟨t, rfl⟩ := hp
  subst he
  rw [List.append_assoc, List.find?_append, List.find?_eq_none.2 (fun y hy => by rw [hn y hy]; decide)]
  simp [hl]
theorem find_none {α : Type} {P : α → Bool} {xs : List α} (h : ∀ y ∈ xs, P y = false) : xs.find? P = none := List.find?_eq_none.2 (fun y hy => by rw [h y hy]; decide)

/-- A loop variable's block: three cells of a pitch. -/
def Pt3 (W : World) (B : Nat) (x y z : Int) : Prop := W.cell? ⟨B, 0, none⟩ = some (.int .i64 x) ∧ W.cell? ⟨B, 1, none⟩ = some (.int .i64 y) ∧ W.cell? ⟨B, 2, none⟩ = some (.int .i64 z)
theorem Pt3.kept {W W' : World} {row : Option Nat} {B : Nat} {x y z : Int} (h : Pt3 W B x y z) (hg : W.grownBy W' row) (hr : ∀ r, row = some r → ∃ o : Obj, W.heap[r]? = some o ∧ o.isCells = false) : Pt3 W' B x y z :=
  ⟨cell_kept h.1 hg hr, cell_kept h.2.1 hg hr, cell_kept h.2.2 hg hr⟩

set_option maxRecDepth 100000 in
set_option maxHeartbeats 4000000 in
theorem signed_any (f : Int) (m : Bool) (st : Int) (w : World) (h0 : -7 ≤ f) (h7 : f ≤ 7) :
    Calls Tryd.prog 41 #[ky f m, .int .i64 st] w fun e w' => e = .returned (.int .i64 (Key.sg f st)) ∧ Below w.heap.size w w' := by
  refine (callsIn_wide (n := 3)).1 ?_
  refine callsIn_of_wp_marks Tryd.func41 rfl trivial ?_ rfl
  simp only [Tryd.ntmps41, List.size_toArray, List.length_cons, List.length_nil, Nat.reduceAdd, Nat.reduceSub, Array.replicate_succ, Array.replicate_zero, List.push_toArray, List.append_toArray, List.nil_append, List.cons_append]
  gi_wp2_with (refine ⟨trivial, ?_⟩; gi_at_call 57; refine (callsIn_wide.2 (lineF_any (f - 1) (f + 5) _)).mono ?_; rintro e w' ⟨rfl, rfl⟩)
  have hBw : Below w.heap.size w (((((w.alloc (.cells #[.int .i64 f, .bool m] 23)).alloc (.cells #[.int .i64 st] 3)).alloc (.cells #[.int .i64 0] 3)).alloc (.cells #[.int .i64 (f - 1)] 3)).alloc (.cells #[.int .i64 (f + 5)] 3)) := by repeat (first | exact Below.refl _ _ | refine Below.alloc ?_ (by simp <;> omega) _)
  have c_s : (((((w.alloc (.cells #[.int .i64 f, .bool m] 23)).alloc (.cells #[.int .i64 st] 3)).alloc (.cells #[.int .i64 0] 3)).alloc (.cells #[.int .i64 (f - 1)] 3)).alloc (.cells #[.int .i64 (f + 5)] 3)).cell? ⟨w.heap.size + 1, 0, none⟩ = some (.int .i64 st) := by go_simp
  have c_r : (((((w.alloc (.cells #[.int .i64 f, .bool m] 23)).alloc (.cells #[.int .i64 st] 3)).alloc (.cells #[.int .i64 0] 3)).alloc (.cells #[.int .i64 (f - 1)] 3)).alloc (.cells #[.int .i64 (f + 5)] 3)).cell? ⟨w.heap.size + 1 + 1, 0, none⟩ = some (.int .i64 0) := by go_simp
  have f_r : (((((w.alloc (.cells #[.int .i64 f, .bool m] 23)).alloc (.cells #[.int .i64 st] 3)).alloc (.cells #[.int .i64 0] 3)).alloc (.cells #[.int .i64 (f - 1)] 3)).alloc (.cells #[.int .i64 (f + 5)] 3)).frozen? ⟨w.heap.size + 1 + 1, 0, none⟩ = false := by go_simp
  have c_a : (((((w.alloc (.cells #[.int .i64 f, .bool m] 23)).alloc (.cells #[.int .i64 st] 3)).alloc (.cells #[.int .i64 0] 3)).alloc (.cells #[.int .i64 (f - 1)] 3)).alloc (.cells #[.int .i64 (f + 5)] 3)).cell? ⟨w.heap.size + 1 + 1 + 1, 0, none⟩ = some (.int .i64 (f - 1)) := by go_simp
  have c_b : (((((w.alloc (.cells #[.int .i64 f, .bool m] 23)).alloc (.cells #[.int .i64 st] 3)).alloc (.cells #[.int .i64 0] 3)).alloc (.cells #[.int .i64 (f - 1)] 3)).alloc (.cells #[.int .i64 (f + 5)] 3)).cell? ⟨w.heap.size + 1 + 1 + 1 + 1, 0, none⟩ = some (.int .i64 (f + 5)) := by go_simp
  have hsz : (((((w.alloc (.cells #[.int .i64 f, .bool m] 23)).alloc (.cells #[.int .i64 st] 3)).alloc (.cells #[.int .i64 0] 3)).alloc (.cells #[.int .i64 (f - 1)] 3)).alloc (.cells #[.int .i64 (f + 5)] 3)).heap.size = w.heap.size + 5 := by simp
  generalize (((((w.alloc (.cells #[.int .i64 f, .bool m] 23)).alloc (.cells #[.int .i64 st] 3)).alloc (.cells #[.int .i64 0] 3)).alloc (.cells #[.int .i64 (f - 1)] 3)).alloc (.cells #[.int .i64 (f + 5)] 3)) = W0 at *
  refine wpIn_rangeFunc_ownH rfl (by omega) (gf := 67) (lb := #[.pointer (some ⟨w.heap.size + 1 + 1 + 1, 0, none⟩), .pointer (some ⟨w.heap.size + 1 + 1 + 1 + 1, 0, none⟩)]) rfl trivial (enters_of Tryd.func67 (by kernel_rfl) rfl)
    (line_stops (3 - 1) (by omega) _ _ W0.heap.size (f - 1) (f + 5) 7 (by omega) (by omega) (Lib.hid (by omega)) (by omega) W0 (Nat.le_refl _) c_a c_b)
    belowK_t (belowK_b (Nat.le_refl _)) (Below.refl _ _) (fun _ => rfl)
    (fun pre W => ((∀ y ∈ pre, (Key.st y == st) = false) ∧ W.cell? ⟨w.heap.size + 1, 0, none⟩ = some (.int .i64 st) ∧ W.cell? ⟨w.heap.size + 1 + 1, 0, none⟩ = some (.int .i64 0) ∧ W.frozen? ⟨w.heap.size + 1 + 1, 0, none⟩ = false ∧ W0.heap.size ≤ W.heap.size) ∧ Below w.heap.size w W)
    (fun c pre W => (c = .ret ∧ ∃ ini last, pre = ini ++ [last] ∧ (∀ y ∈ ini, (Key.st y == st) = false) ∧ (Key.st last == st) = true ∧ W.cell? ⟨w.heap.size + 1 + 1, 0, none⟩ = some (.int .i64 (Key.al last))) ∧ Below w.heap.size w W)
    (OwnFrom.and (Own.from (fun s A B row hs hg hr => ⟨hs.1, cell_kept hs.2.1 hg hr, cell_kept hs.2.2.1 hg hr, (frozen_kept hs.2.2.1 hg hr).trans hs.2.2.2.1, Nat.le_trans hs.2.2.2.2 hg.size⟩) _) (ownFrom_below (Nat.le_refl _) (by omega)))
    (fun c => OwnFrom.and (Own.from (fun s A B row hs hg hr => by obtain ⟨hc, ini, last, e1, e2, e3, e4⟩ := hs; exact ⟨hc, ini, last, e1, e2, e3, cell_kept e4 hg hr⟩) _) (ownFrom_below (Nat.le_refl _) (by omega)))
    ⟨⟨by simp, c_s, c_r, f_r, Nat.le_refl _⟩, hBw⟩
    (fun x a' W => ∃ Bx, Pt3 W Bx (Key.st x) (Key.al x) 4 ∧ a' = { tmps := #[ky f m, .int .i64 st, .pointer (some ⟨w.heap.size, 0, none⟩), .pointer (some ⟨w.heap.size + 1, 0, none⟩), .pointer (some ⟨w.heap.size + 1 + 1, 0, none⟩), .pointer (some ⟨Bx, 0, none⟩), .pointer (some ⟨w.heap.size, 0, none⟩), .int .i64 f, .int .i64 (f - 1), .pointer (some ⟨w.heap.size, 0, none⟩), .int .i64 f, .int .i64 (f + 5), .func (.func 67) #[] #[.pointer (some ⟨w.heap.size + 1 + 1 + 1, 0, none⟩), .pointer (some ⟨w.heap.size + 1 + 1 + 1 + 1, 0, none⟩)], pt (Key.st x) (Key.al x) 4, undef, undef, undef, undef, undef, undef], defers := [] })
    (fun x a' s A B row hs hg hr => by obtain ⟨Bx, g2, g3⟩ := hs; exact ⟨Bx, g2.kept hg (fun r e => (hr r e).2), g3⟩) ?assign ?body ?done ?stop
  case assign =>
    rintro l pre x W K ⟨⟨i1, i2, i3, i4, i5⟩, hB⟩ hK
    gi_wp2
    exact hK _ _ ((KeepsOthers.alloc _ _).from _) ((Below.refl _ W).alloc i5 _) ⟨⟨i1, alloc_cell i2, alloc_cell i3, alloc_frozen i3 i4, by simp; omega⟩, hB.alloc hB.size _⟩ ⟨W.heap.size, ⟨by go_simp, by go_simp, by go_simp⟩, rfl⟩
  case body =>
    rintro l pre x a' W hl ⟨r, hr⟩ ⟨⟨i1, i2, i3, i4, i5⟩, hB⟩ ⟨Bx, ⟨p0, p1, p2⟩, rfl⟩ hlt
    gi_wp2
    · rename_i hx
      exact ⟨(KeepsOthers.setCell _ _ _).from _, ⟨rfl, pre, x, rfl, i1, hx, set_same (held_of i3)⟩, set1_below hB (by omega)⟩
    · rename_i hx
      exact ⟨KeepsFrom.refl _ _, Below.refl _ _, ⟨fun y hy => (List.mem_append.1 hy).elim (i1 y) (fun e => by simp at e; subst e; simpa using hx), i2, i3, i4, i5⟩, hB⟩
  case done =>
    rintro D ys W hD rfl ⟨⟨i1, i2, i3, i4, i5⟩, hB⟩ hK
    gi_wp2
    have hK' := (KeepsOthers.setCell W ⟨w.heap.size + 1 + 1, 0, none⟩ (.int .i64 0)).same D _ hK rfl
    refine ⟨by simp, .inl ⟨_, _, rfl, run_takeDeferred hK', ?_⟩⟩
    have hc5 := cell_kept (set_same (x := .int .i64 0) (held_of i3)) (grownBy_putObj' _ D (.deferred none)) (fun r e => by cases e; exact ⟨_, hK', rfl⟩)
    have hv : Key.sg f st = 0 := by unfold Key.sg Key.sgL; rw [find_none i1]; rfl
    refine ⟨.int .i64 0, ?_, by rw [hv], (set1_below hB (by omega)).trans (belowK_b (w := w) (Nat.le_refl _) _ D _ _ (by omega) hK' rfl rfl)⟩
    simp [results, Tryd.results41, go_sem, hc5]
  case stop =>
    rintro D c pre W hD ⟨k, hk, hpre⟩ ⟨⟨rfl, ini, last, e1, e2, e3, e4⟩, hB⟩ hK
    gi_wp2
    refine ⟨by simp, .inl ⟨_, _, rfl, run_takeDeferred hK, ?_⟩⟩
    have hc5 := cell_kept e4 (grownBy_putObj' _ D (.deferred none)) (fun r e => by cases e; exact ⟨_, hK, rfl⟩)
    have hv : Key.sg f st = Key.al last := by unfold Key.sg Key.sgL; rw [find_at (places_prefix _ hk) (hpre ▸ e1) e2 e3]; rfl
    refine ⟨.int .i64 (Key.al last), ?_, by rw [hv], hB.trans (belowK_b (w := w) (Nat.le_refl _) W D _ _ (by omega) hK rfl rfl)⟩
    simp [results, Tryd.results41, go_sem, hc5]
end Go.Proofs.YtahcbgngdpjhkaaDoor
