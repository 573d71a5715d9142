/-
  The contracts of pitch.step and pitch.head.
-/
import Derived.Test.YtoopchnncjfjoaaDoorPitB
import Derived.Lib.OthersKept
import Derived.WalkSmall
namespace Go.Proofs.YtoopchnncjfjoaaDoor
open Go.RowKit

/-- The letters of the steps. -/
abbrev letL : ByteArray := ⟨#[67, 68, 69, 70, 71, 65, 66]⟩
def StepRel (c : Int) (w wr : World) : Prop := (wr = w.iter letL 0) ∨ (wr = w.iter letL 1 ∧ c ≠ 67) ∨ (wr = w.iter letL 2 ∧ c ≠ 67 ∧ c ≠ 68) ∨ (wr = w.iter letL 3 ∧ c ≠ 67 ∧ c ≠ 68 ∧ c ≠ 69) ∨ (wr = w.iter letL 4 ∧ c ≠ 67 ∧ c ≠ 68 ∧ c ≠ 69 ∧ c ≠ 70) ∨ (wr = w.iter letL 5 ∧ c ≠ 67 ∧ c ≠ 68 ∧ c ≠ 69 ∧ c ≠ 70 ∧ c ≠ 71) ∨ (wr = w.iter letL 6 ∧ c ≠ 67 ∧ c ≠ 68 ∧ c ≠ 69 ∧ c ≠ 70 ∧ c ≠ 71 ∧ c ≠ 65) ∨ (wr = w.iter letL 7 ∧ c ≠ 67 ∧ c ≠ 68 ∧ c ≠ 69 ∧ c ≠ 70 ∧ c ≠ 71 ∧ c ≠ 65 ∧ c ≠ 66)
theorem step_none {c : Int} (h1 : c ≠ 67) (h2 : c ≠ 68) (h3 : c ≠ 69) (h4 : c ≠ 70) (h5 : c ≠ 71) (h6 : c ≠ 65) (h7 : c ≠ 66) : Pit.stepOf c.toNat = -1 := by
  unfold Pit.stepOf
  rw [if_neg (by omega), if_neg (by omega), if_neg (by omega), if_neg (by omega), if_neg (by omega), if_neg (by omega), if_neg (by omega)]

set_option maxRecDepth 100000 in
set_option maxHeartbeats 4000000 in
theorem step_any (c : Int) (w : World) :
    Calls Tryd.prog 43 #[.int .i32 c] w fun e w' => e = .returned (.int .i64 (Pit.stepOf c.toNat)) ∧ Below w.heap.size w w' := by
  have hB : ∀ k, Below w.heap.size w (w.iter letL k) := fun k => (Below.refl _ _).alloc (Nat.le_refl _) _
  have HB := Lib.hid hB
  clear hB
  go_enter Tryd.func43, Tryd.ntmps43
  go_wp2
  go_loopw [3] (fun _ wr => StepRel c w wr) (fun _ wr => 8 - wr.iterPos w.heap.size)
  case atStart => exact Or.inl rfl
  case round =>
    unfold StepRel at hrel
    rcases hrel with rfl | ⟨rfl, h1⟩ | ⟨rfl, h1, h2⟩ | ⟨rfl, h1, h2, h3⟩ | ⟨rfl, h1, h2, h3, h4⟩ | ⟨rfl, h1, h2, h3, h4, h5⟩ | ⟨rfl, h1, h2, h3, h4, h5, h6⟩ | ⟨rfl, h1, h2, h3, h4, h5, h6, h7⟩
    · have hnx : (Instr.next (.pointer (some ⟨w.heap.size, 0, none⟩)) true 0).run Tryd.prog (w.iter letL 0) = .ok (.tuple #[.bool true, .int .i64 0, .int .i32 67]) (w.iter letL 1) := run_next_ascii w letL 0 0 (by decide) (by decide)
      by_cases hc : c = 67
      · subst hc
        go_wp2
        go_ret
        exact ⟨rfl, HB.out _⟩
      · have hc2 : (67 : Int) ≠ c := fun e => hc e.symm
        have hc3 : ((67 : Int) == c) = false := by simp [hc2]
        go_wp2
        refine ⟨Or.inr (Or.inl (⟨rfl, hc⟩)), by simp⟩
    · have hnx : (Instr.next (.pointer (some ⟨w.heap.size, 0, none⟩)) true 0).run Tryd.prog (w.iter letL 1) = .ok (.tuple #[.bool true, .int .i64 1, .int .i32 68]) (w.iter letL 2) := run_next_ascii w letL 1 0 (by decide) (by decide)
      by_cases hc : c = 68
      · subst hc
        go_wp2
        go_ret
        exact ⟨rfl, HB.out _⟩
      · have hc2 : (68 : Int) ≠ c := fun e => hc e.symm
        have hc3 : ((68 : Int) == c) = false := by simp [hc2]
        go_wp2
        refine ⟨Or.inr (Or.inr (Or.inl (⟨rfl, h1, hc⟩))), by simp⟩
    · have hnx : (Instr.next (.pointer (some ⟨w.heap.size, 0, none⟩)) true 0).run Tryd.prog (w.iter letL 2) = .ok (.tuple #[.bool true, .int .i64 2, .int .i32 69]) (w.iter letL 3) := run_next_ascii w letL 2 0 (by decide) (by decide)
      by_cases hc : c = 69
      · subst hc
        go_wp2
        go_ret
        exact ⟨rfl, HB.out _⟩
      · have hc2 : (69 : Int) ≠ c := fun e => hc e.symm
        have hc3 : ((69 : Int) == c) = false := by simp [hc2]
        go_wp2
        refine ⟨Or.inr (Or.inr (Or.inr (Or.inl (⟨rfl, h1, h2, hc⟩)))), by simp⟩
    · have hnx : (Instr.next (.pointer (some ⟨w.heap.size, 0, none⟩)) true 0).run Tryd.prog (w.iter letL 3) = .ok (.tuple #[.bool true, .int .i64 3, .int .i32 70]) (w.iter letL 4) := run_next_ascii w letL 3 0 (by decide) (by decide)
      by_cases hc : c = 70
      · subst hc
        go_wp2
        go_ret
        exact ⟨rfl, HB.out _⟩
      · have hc2 : (70 : Int) ≠ c := fun e => hc e.symm
        have hc3 : ((70 : Int) == c) = false := by simp [hc2]
        go_wp2
        refine ⟨Or.inr (Or.inr (Or.inr (Or.inr (Or.inl (⟨rfl, h1, h2, h3, hc⟩))))), by simp⟩
    · have hnx : (Instr.next (.pointer (some ⟨w.heap.size, 0, none⟩)) true 0).run Tryd.prog (w.iter letL 4) = .ok (.tuple #[.bool true, .int .i64 4, .int .i32 71]) (w.iter letL 5) := run_next_ascii w letL 4 0 (by decide) (by decide)
      by_cases hc : c = 71
      · subst hc
        go_wp2
        go_ret
        exact ⟨rfl, HB.out _⟩
      · have hc2 : (71 : Int) ≠ c := fun e => hc e.symm
        have hc3 : ((71 : Int) == c) = false := by simp [hc2]
        go_wp2
        refine ⟨Or.inr (Or.inr (Or.inr (Or.inr (Or.inr (Or.inl (⟨rfl, h1, h2, h3, h4, hc⟩)))))), by simp⟩
    · have hnx : (Instr.next (.pointer (some ⟨w.heap.size, 0, none⟩)) true 0).run Tryd.prog (w.iter letL 5) = .ok (.tuple #[.bool true, .int .i64 5, .int .i32 65]) (w.iter letL 6) := run_next_ascii w letL 5 0 (by decide) (by decide)
      by_cases hc : c = 65
      · subst hc
        go_wp2
        go_ret
        exact ⟨rfl, HB.out _⟩
      · have hc2 : (65 : Int) ≠ c := fun e => hc e.symm
        have hc3 : ((65 : Int) == c) = false := by simp [hc2]
        go_wp2
        refine ⟨Or.inr (Or.inr (Or.inr (Or.inr (Or.inr (Or.inr (Or.inl (⟨rfl, h1, h2, h3, h4, h5, hc⟩))))))), by simp⟩
    · have hnx : (Instr.next (.pointer (some ⟨w.heap.size, 0, none⟩)) true 0).run Tryd.prog (w.iter letL 6) = .ok (.tuple #[.bool true, .int .i64 6, .int .i32 66]) (w.iter letL 7) := run_next_ascii w letL 6 0 (by decide) (by decide)
      by_cases hc : c = 66
      · subst hc
        go_wp2
        go_ret
        exact ⟨rfl, HB.out _⟩
      · have hc2 : (66 : Int) ≠ c := fun e => hc e.symm
        have hc3 : ((66 : Int) == c) = false := by simp [hc2]
        go_wp2
        refine ⟨Or.inr (Or.inr (Or.inr (Or.inr (Or.inr (Or.inr (Or.inr (⟨rfl, h1, h2, h3, h4, h5, h6, hc⟩))))))), by simp⟩
    · have hnx : (Instr.next (.pointer (some ⟨w.heap.size, 0, none⟩)) true 0).run Tryd.prog (w.iter letL 7) = .ok (.tuple #[.bool false]) (w.iter letL 7) := run_next_end w letL 7 0 (by decide)
      go_wp2
      go_ret
      exact ⟨ret_int (step_none h1 h2 h3 h4 h5 h6 h7).symm, HB.out _⟩

/-- What the loop of head keeps: the iterator, the answer's block, p's block; nothing else has turned. -/
structure HeadW (w : World) (s : ByteArray) (pos : Nat) (S A : Int) (wr : World) : Prop where
  it : wr.heap[w.heap.size + 1 + 1]? = some (.stringIter s pos)
  r0 : wr.cell? ⟨w.heap.size, 0, none⟩ = some (.int .i64 0)
  r1 : wr.cell? ⟨w.heap.size, 1, none⟩ = some (.int .i64 0)
  r2 : wr.cell? ⟨w.heap.size, 2, none⟩ = some (.int .i64 0)
  p0 : wr.cell? ⟨w.heap.size + 1, 0, none⟩ = some (.int .i64 S)
  p1 : wr.cell? ⟨w.heap.size + 1, 1, none⟩ = some (.int .i64 A)
  p2 : wr.cell? ⟨w.heap.size + 1, 2, none⟩ = some (.int .i64 0)
  f0 : wr.frozen? ⟨w.heap.size, 0, none⟩ = false
  f1 : wr.frozen? ⟨w.heap.size, 1, none⟩ = false
  f2 : wr.frozen? ⟨w.heap.size, 2, none⟩ = false
  g0 : wr.frozen? ⟨w.heap.size + 1, 0, none⟩ = false
  g1 : wr.frozen? ⟨w.heap.size + 1, 1, none⟩ = false
  below : Below w.heap.size w wr
theorem HeadW.start (w : World) (s : ByteArray) (t : TypeId) : HeadW w s 0 0 0 (((w.alloc (.cells #[.int .i64 0, .int .i64 0, .int .i64 0] t)).alloc (.cells #[.int .i64 0, .int .i64 0, .int .i64 0] t)).iter s 0) := by
  have hb := (Below.refl ((w.alloc (.cells #[.int .i64 0, .int .i64 0, .int .i64 0] t)).alloc (.cells #[.int .i64 0, .int .i64 0, .int .i64 0] t)).heap.size ((w.alloc (.cells #[.int .i64 0, .int .i64 0, .int .i64 0] t)).alloc (.cells #[.int .i64 0, .int .i64 0, .int .i64 0] t))).alloc (Nat.le_refl _) (.stringIter s 0)
  refine ⟨?_, cell_later hb (by go_simp), cell_later hb (by go_simp), cell_later hb (by go_simp), cell_later hb (by go_simp), cell_later hb (by go_simp), cell_later hb (by go_simp), (hb.frozen (by simp <;> omega)).trans (by go_simp), (hb.frozen (by simp <;> omega)).trans (by go_simp), (hb.frozen (by simp <;> omega)).trans (by go_simp), (hb.frozen (by simp <;> omega)).trans (by go_simp), (hb.frozen (by simp <;> omega)).trans (by go_simp), ?_⟩
  · have := World.iter_heap ((w.alloc (.cells #[.int .i64 0, .int .i64 0, .int .i64 0] t)).alloc (.cells #[.int .i64 0, .int .i64 0, .int .i64 0] t)) s 0
    simpa using this
  · unfold World.iter
    (repeat (first | exact Below.refl _ _ | refine Below.alloc ?_ (by simp <;> omega) _))
theorem HeadW.later {w : World} {s : ByteArray} {pos : Nat} {S A : Int} {wr wx : World} (h : HeadW w s pos S A wr) (hb : Below wr.heap.size wr wx) : HeadW w s pos S A wx :=
  ⟨(hb.block _ (Array.getElem?_eq_some_iff.1 h.it).1).trans h.it, cell_later hb h.r0, cell_later hb h.r1, cell_later hb h.r2, cell_later hb h.p0, cell_later hb h.p1, cell_later hb h.p2,
    frozen_later hb h.r0 h.f0, frozen_later hb h.r1 h.f1, frozen_later hb h.r2 h.f2, frozen_later hb h.p0 h.g0, frozen_later hb h.p1 h.g1, below_two h.below hb⟩
theorem iterAt_cell {wr : World} {k : Nat} {s : ByteArray} {p : Nat} {b o : Nat} {v : Value} (hb : b ≠ k) (h : wr.cell? ⟨b, o, none⟩ = some v) : (wr.iterAt k s p).cell? ⟨b, o, none⟩ = some v := by
  unfold World.cell? at h ⊢
  rw [Lib.iterAt_other wr k b s p hb]
  exact h
theorem iterAt_frozen {wr : World} {k : Nat} {s : ByteArray} {p : Nat} {b o : Nat} (hb : b ≠ k) (h : wr.frozen? ⟨b, o, none⟩ = false) : (wr.iterAt k s p).frozen? ⟨b, o, none⟩ = false := by
  unfold World.frozen? at h ⊢
  rw [Lib.iterAt_other wr k b s p hb]
  exact h
theorem HeadW.next {w : World} {s : ByteArray} {pos : Nat} {S A : Int} {wr : World} (h : HeadW w s pos S A wr) (q : Nat) : HeadW w s q S A (wr.iterAt (w.heap.size + 1 + 1) s q) :=
  ⟨Lib.iterAt_heap _ _ _ pos _ h.it, iterAt_cell (by omega) h.r0, iterAt_cell (by omega) h.r1, iterAt_cell (by omega) h.r2, iterAt_cell (by omega) h.p0, iterAt_cell (by omega) h.p1, iterAt_cell (by omega) h.p2,
    iterAt_frozen (by omega) h.f0, iterAt_frozen (by omega) h.f1, iterAt_frozen (by omega) h.f2, iterAt_frozen (by omega) h.g0, iterAt_frozen (by omega) h.g1, Lib.below_iterAt h.below (by omega) _ _⟩
theorem HeadW.set0 {w : World} {s : ByteArray} {pos : Nat} {S A : Int} {wr : World} (h : HeadW w s pos S A wr) (x : Int) : HeadW w s pos x A (wr.setCell ⟨w.heap.size + 1, 0, none⟩ (.int .i64 x)) :=
  ⟨by rw [Below.heap_setCell _ _ _ _ (by simp)]; exact h.it, set_far (by omega) h.r0, set_far (by omega) h.r1, set_far (by omega) h.r2, set_same (held_of h.p0), set_beside (by decide) h.p1, set_beside (by decide) h.p2,
    set_frozen h.f0, set_frozen h.f1, set_frozen h.f2, set_frozen h.g0, set_frozen h.g1, set1_below h.below (by omega)⟩
theorem HeadW.set1 {w : World} {s : ByteArray} {pos : Nat} {S A : Int} {wr : World} (h : HeadW w s pos S A wr) (x : Int) : HeadW w s pos S x (wr.setCell ⟨w.heap.size + 1, 1, none⟩ (.int .i64 x)) :=
  ⟨by rw [Below.heap_setCell _ _ _ _ (by simp)]; exact h.it, set_far (by omega) h.r0, set_far (by omega) h.r1, set_far (by omega) h.r2, set_beside (by decide) h.p0, set_same (held_of h.p1), set_beside (by decide) h.p2,
    set_frozen h.f0, set_frozen h.f1, set_frozen h.f2, set_frozen h.g0, set_frozen h.g1, set1_below h.below (by omega)⟩
theorem decode_pos (s : ByteArray) (pos : Nat) (h : pos < s.size) : 1 ≤ (Utf8.decode s pos).2 := by
  by_cases ha : (s[pos]'h).toNat < 128
  · rw [decode_ascii s pos h ha]; exact Nat.le_refl _
  · exact (decode_high s pos h (by omega)).2
/-- How far the loop has come. -/
def HeadRel (w : World) (s : ByteArray) (wr : World) : Prop := ∃ (pos : Nat) (S A : Int) (f : Nat), HeadW w s pos S A wr ∧ (s.size < pos + f ∧ 1 ≤ f) ∧ Pit.hdGo s f pos S A = Pit.hd s ∧ -(pos : Int) ≤ A ∧ A ≤ pos
theorem hd_end {s : ByteArray} {pos f : Nat} {S A : Int} (h : ¬ pos < s.size) (e : Pit.hdGo s (f + 1) pos S A = Pit.hd s) : Pit.hd s = (S, A, s.size) := by
  rw [← e, Pit.hdGo, if_neg h]
theorem hd_first {s : ByteArray} {f : Nat} {S A : Int} (h : 0 < s.size) (e : Pit.hdGo s (f + 1) 0 S A = Pit.hd s) : Pit.hdGo s f (0 + (Utf8.decode s 0).2) (Pit.stepOf (Utf8.decode s 0).1) A = Pit.hd s := by
  rw [← e, Pit.hdGo, if_pos h, if_pos rfl]
theorem hd_sharp {s : ByteArray} {pos f : Nat} {S A : Int} (h : pos < s.size) (h0 : pos ≠ 0) (hc : (Utf8.decode s pos).1 = 35) (e : Pit.hdGo s (f + 1) pos S A = Pit.hd s) : Pit.hdGo s f (pos + (Utf8.decode s pos).2) S (A + 1) = Pit.hd s := by
  rw [← e, Pit.hdGo, if_pos h, if_neg h0, if_pos hc]
theorem hd_flat {s : ByteArray} {pos f : Nat} {S A : Int} (h : pos < s.size) (h0 : pos ≠ 0) (hc : (Utf8.decode s pos).1 = 98) (e : Pit.hdGo s (f + 1) pos S A = Pit.hd s) : Pit.hdGo s f (pos + (Utf8.decode s pos).2) S (A - 1) = Pit.hd s := by
  rw [← e, Pit.hdGo, if_pos h, if_neg h0, if_neg (by omega), if_pos hc]
theorem hd_other {s : ByteArray} {pos f : Nat} {S A : Int} (h : pos < s.size) (h0 : pos ≠ 0) (hc : (Utf8.decode s pos).1 ≠ 35) (hc' : (Utf8.decode s pos).1 ≠ 98) (e : Pit.hdGo s (f + 1) pos S A = Pit.hd s) : Pit.hd s = (S, A, pos) := by
  rw [← e, Pit.hdGo, if_pos h, if_neg h0, if_neg hc, if_neg hc']

set_option maxRecDepth 100000 in
set_option maxHeartbeats 4000000 in
theorem head_any (s : ByteArray) (w : World) (hs : s.size ≤ 1000) (S0 A0 : Int) (P0 : Nat) (HH : Hid (Pit.hd s = (S0, A0, P0))) (E : ByteArray) (HE : Hid (s.extract P0 s.size = E)) :
    Calls Tryd.prog 39 #[.string s] w fun e w' => e = .returned (.tuple #[pt S0 A0 0, .string E]) ∧ Below w.heap.size w w' := by
  have HS := Lib.hid (HeadW.start w s 23)
  go_enter Tryd.func39, Tryd.ntmps39
  go_wp2
  go_loopw [5] (fun _ wr => HeadRel w s wr) (fun _ wr => s.size - wr.iterPos (w.heap.size + 1 + 1))
  case atStart => exact ⟨0, 0, 0, s.size + 1, HS.out, ⟨by omega, by omega⟩, rfl, by omega, by omega⟩
  case round =>
    obtain ⟨pos, S, A, f, hW, hf, hgo, hA0, hA1⟩ := hrel
    by_cases hlt : pos < s.size
    · obtain ⟨f, rfl⟩ : ∃ g, f = g + 1 := ⟨f - 1, by omega⟩
      have hnx := Lib.run_next_any_at (P := Tryd.prog) wr (w.heap.size + 1 + 1) s pos 0 hW.it hlt
      have hn1 := decode_pos s pos hlt
      have hm := iterPos_of hW.it
      have hW2 := hW.next (pos + (Utf8.decode s pos).2)
      generalize wr.iterAt (w.heap.size + 1 + 1) s (pos + (Utf8.decode s pos).2) = w2 at *
      by_cases hp : pos = 0
      · subst hp
        have hgo2 := Lib.hid (hd_first hlt hgo)
        generalize hq : (Utf8.decode s 0).2 = n at *
        generalize hc : (Utf8.decode s 0).1 = c at *
        have HM := Lib.hid hm
        have HW := Lib.hid hW2
        have HF := Lib.hid hf
        clear hm hgo hq hc hf
        have g0 := hW2.g0
        have p0 := hW2.p0
        clear hW hW2
        go_wp2_with fail
        refine (step_any _ _).mono ?_
        rintro e w3 ⟨rfl, hb⟩
        rw [show ((c : Nat) : Int).toNat = c by omega]
        have hW3 := HW.out.later hb
        have HX := Lib.hid (hW3.set0 (Pit.stepOf c))
        replace g0 := hW3.g0
        replace p0 := hW3.p0
        clear hW3 hb
        go_wp2
        refine ⟨⟨0 + n, Pit.stepOf c, A, f, HX.out, ⟨by have := HF.out; omega, by have := HF.out; omega⟩, hgo2.out, by omega, by omega⟩, ?_⟩
        rw [iterPos_of HX.out.it, HM.out]; omega
      · have hp1 : ((pos : Int) == 0) = false := by simp; omega
        by_cases h35 : (Utf8.decode s pos).1 = 35
        · have hgo2 := Lib.hid (hd_sharp hlt hp h35 hgo)
          rw [h35] at hnx
          generalize hq : (Utf8.decode s pos).2 = n at *
          have HM := Lib.hid hm
          have HF := Lib.hid hf
          have HX := Lib.hid (hW2.set1 (A + 1))
          clear hm hgo hq hf h35
          have g1 := hW2.g1
          have p1 := hW2.p1
          clear hW hW2
          go_wp2
          refine ⟨⟨pos + n, S, A + 1, f, HX.out, ⟨by have := HF.out; omega, by have := HF.out; omega⟩, hgo2.out, by omega, by omega⟩, ?_⟩
          rw [iterPos_of HX.out.it, HM.out]; omega
        · have h35' : (((Utf8.decode s pos).1 : Int) == 35) = false := by simp; omega
          by_cases h98 : (Utf8.decode s pos).1 = 98
          · have hgo2 := Lib.hid (hd_flat hlt hp h98 hgo)
            rw [h98] at hnx
            generalize hq : (Utf8.decode s pos).2 = n at *
            have HM := Lib.hid hm
            have HF := Lib.hid hf
            have HX := Lib.hid (hW2.set1 (A - 1))
            clear hm hgo hq hf h98 h35 h35'
            have g1 := hW2.g1
            have p1 := hW2.p1
            clear hW hW2
            go_wp2
            refine ⟨⟨pos + n, S, A - 1, f, HX.out, ⟨by have := HF.out; omega, by have := HF.out; omega⟩, hgo2.out, by omega, by omega⟩, ?_⟩
            rw [iterPos_of HX.out.it, HM.out]; omega
          · have h98' : (((Utf8.decode s pos).1 : Int) == 98) = false := by simp; omega
            have hres := hd_other hlt hp h35 h98 hgo
            rw [HH.out] at hres
            simp only [Prod.mk.injEq] at hres
            obtain ⟨rfl, rfl, rfl⟩ := hres
            generalize hq : (Utf8.decode s P0).2 = n at *
            generalize hc : (Utf8.decode s P0).1 = c at *
            clear hq hc hf hm hgo h35 h98 hW
            obtain ⟨-, r0, r1, r2, p0, p1, p2, f0, f1, f2, -, -, hB⟩ := hW2
            have hi0 : (0 : Int) ≤ (P0 : Int) := by omega
            have hi1 : (P0 : Int) ≤ (s.size : Int) := by omega
            have hE := HE.out
            go_wp2
            go_region
            obtain ⟨m0, m1, m2⟩ := put3_of (x := .int .i64 S0) (y := .int .i64 A0) (z := .int .i64 0) r0 r1 r2
            go_wp2
            exact bodyPost_ret (v := .tuple #[pt S0 A0 0, .string E]) (by simp [results, Tryd.results39, go_sem, m0, m1, m2]) rfl ⟨rfl, (put3_below hB (by omega)).drew⟩
    · have hend : Pit.hd s = (S, A, s.size) := by
        obtain ⟨f, rfl⟩ : ∃ g, f = g + 1 := ⟨f - 1, by omega⟩
        exact hd_end hlt hgo
      rw [HH.out] at hend
      simp only [Prod.mk.injEq] at hend
      obtain ⟨rfl, rfl, rfl⟩ := hend
      have hnx := Lib.run_next_end_at (P := Tryd.prog) wr (w.heap.size + 1 + 1) s pos 0 hW.it hlt
      clear hf hgo
      obtain ⟨-, r0, r1, r2, p0, p1, p2, f0, f1, f2, -, -, hB⟩ := hW
      obtain ⟨m0, m1, m2⟩ := put3_of (x := .int .i64 S0) (y := .int .i64 A0) (z := .int .i64 0) r0 r1 r2
      have hE : E = ⟨#[]⟩ := by
        rw [← HE.out]
        apply ByteArray.ext
        simp
      go_wp2
      rw [hE]
      exact bodyPost_ret (v := .tuple #[pt S0 A0 0, .string ⟨#[]⟩]) (by simp [results, Tryd.results39, go_sem, m0, m1, m2]) rfl ⟨rfl, put3_below hB (by omega)⟩
end Go.Proofs.YtoopchnncjfjoaaDoor
