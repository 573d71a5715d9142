/-
  The contract of event.allMarks.
-/
import Derived.Test.YtnfnonlbokddfaaDoorEvK
namespace Go.Proofs.YtnfnonlbokddfaaDoor
open Go.RowKit

open Evt (P3 Ev)
/-- The array of marks: those of S are set. -/
structure Set5 (W : World) (B : Nat) (S : List Int) : Prop where
  at_ : ∀ j : Nat, j < 5 → W.cell? ⟨B, j, none⟩ = some (.bool (S.contains (j : Int)))
  frz : ∀ j : Nat, j < 5 → W.frozen? ⟨B, j, none⟩ = false
theorem Set5.later {W W' : World} {B : Nat} {S : List Int} (h : Set5 W B S) (hb : Below W.heap.size W W') : Set5 W' B S := ⟨fun j hj => cell_later hb (h.at_ j hj), fun j hj => frozen_later hb (h.at_ j hj) (h.frz j hj)⟩
theorem Set5.start (w : World) : Set5 (w.alloc (.cells #[.bool false, .bool false, .bool false, .bool false, .bool false] 141)) w.heap.size [] := by
  refine ⟨fun j hj => ?_, fun j hj => ?_⟩
  · obtain rfl | rfl | rfl | rfl | rfl : j = 0 ∨ j = 1 ∨ j = 2 ∨ j = 3 ∨ j = 4 := by omega
    all_goals go_simp
    all_goals rfl
  · obtain rfl | rfl | rfl | rfl | rfl : j = 0 ∨ j = 1 ∨ j = 2 ∨ j = 3 ∨ j = 4 := by omega
    all_goals go_simp
theorem Set5.store {W : World} {B : Nat} {S : List Int} (h : Set5 W B S) {q : Nat} (hq : q < 5) : Set5 (W.setCell ⟨B, q, none⟩ (.bool true)) B (S ++ [(q : Int)]) := by
  refine ⟨fun j hj => ?_, fun j hj => set_frozen (h.frz j hj)⟩
  by_cases e : j = q
  · subst e
    rw [set_same (held_of (h.at_ j hj)), List.contains_eq_mem, decide_eq_true (by simp)]
  · rw [set_beside (fun k => e k.symm) (h.at_ j hj)]
    have : (S ++ [(q : Int)]).contains (j : Int) = S.contains (j : Int) := by
      rw [Bool.eq_iff_iff, List.contains_iff_mem, List.contains_iff_mem, List.mem_append]
      constructor
      · rintro (h | h)
        · exact h
        · simp at h; omega
      · exact Or.inl
    rw [this]
def marksOf (ys : List EM) : List Int := ys.flatMap fun y => y.1.ms
theorem marksOf_take {ys : List EM} {k : Nat} {y : EM} (h : ys[k]? = some y) : marksOf (ys.take (k + 1)) = marksOf (ys.take k) ++ y.1.ms := by
  unfold marksOf; rw [take_succ_at h, List.flatMap_append]; simp
/-- A slice that lies in a block that is there, or is nil. -/
def Inn (W : World) (v : Value) : Prop := ∀ g, v.ownBlock = some g → g < W.heap.size
theorem Sl.set_ne {α : Type} {k : Nat} {enc : α → List Value} {W : World} {v : Value} {l : List α} {B o : Nat} {x : Value} (h : Sl k enc W v l) (ho : v.ownBlock ≠ some B) : Sl k enc (W.setCell ⟨B, o, .none⟩ x) v l := by
  obtain ⟨p, cap, rfl, hl, hc, hx⟩ := h
  refine ⟨p, cap, rfl, hl, hc, fun i y hi => ?_⟩
  obtain ⟨b, q, e, c⟩ := hx i y hi
  subst e
  refine ⟨b, q, rfl, fun j u hu => ?_⟩
  exact set_far (fun e => ho (by rw [e]; rfl)) (c j u hu)
def MRel1 (ys : List EM) (w : World) (i : Value) (wr : World) : Prop := ∃ k : Nat, k ≤ ys.length ∧ i = .int .i64 (k : Int) ∧ Set5 wr w.heap.size (marksOf (ys.take k)) ∧ Below w.heap.size w wr
def MRel2 (ms : List Int) (S : List Int) (w : World) (i : Value) (wr : World) : Prop := ∃ k : Nat, k ≤ ms.length ∧ i = .int .i64 (k : Int) ∧ Set5 wr w.heap.size (S ++ ms.take k) ∧ Below w.heap.size w wr
/-- The numbers below k that S has. -/
def pick5 (S : List Int) (k : Nat) : List Int := ((List.range k).map Int.ofNat).filter fun j => S.contains j
theorem pick5_succ (S : List Int) (k : Nat) : pick5 S (k + 1) = pick5 S k ++ (if S.contains (k : Int) then [(k : Int)] else []) := by
  unfold pick5
  rw [List.range_succ, List.map_append, List.filter_append]
  congr 1
  show List.filter (fun j => S.contains j) [(k : Int)] = _
  cases h : S.contains (k : Int) <;> simp <;> simpa using h
def MRel3 (S : List Int) (w : World) (v i : Value) (wr : World) : Prop := ∃ k : Nat, k ≤ 5 ∧ i = .int .i64 (k : Int) ∧ (pick5 S k).length ≤ k ∧ wr.ownsRow (w.heap.size + 1) 3 1 v (pick5 S k).length ((pick5 S k).flatMap encI) ∧ w.heap.size < wr.heap.size ∧ Below w.heap.size w wr
theorem pick5_mk {ys : List EM} (h : ∀ y ∈ ys, Evt.IsR y.1) : pick5 (marksOf ys) 5 = Evt.mk (ys.map Prod.fst) := by
  have hmem : ∀ m : Int, m ∈ marksOf ys ↔ ∃ x ∈ ys.map Prod.fst, m ∈ x.ms := by
    intro m
    unfold marksOf
    rw [List.mem_flatMap]
    constructor
    · rintro ⟨y, hy, hm⟩; exact ⟨y.1, List.mem_map_of_mem hy, hm⟩
    · rintro ⟨x, hx, hm⟩; obtain ⟨y, hy, rfl⟩ := List.mem_map.1 hx; exact ⟨y, hy, hm⟩
  symm
  refine Evt.mk_is ?_ fun m => ?_
  · exact List.Pairwise.filter _ (by decide)
  · unfold pick5
    rw [List.mem_filter, List.contains_iff_mem, hmem]
    have hr : m ∈ (List.range 5).map Int.ofNat ↔ 0 ≤ m ∧ m ≤ 4 := by
      rw [show (List.range 5).map Int.ofNat = [0, 1, 2, 3, 4] by decide]; simp; omega
    rw [hr]
    constructor
    · rintro ⟨_, x, hx, hm⟩
      obtain ⟨y, hy, rfl⟩ := List.mem_map.1 hx
      exact ⟨(h y hy).marks m hm, y.1, hx, hm⟩
    · rintro ⟨hb, x, hx, hm⟩; exact ⟨by omega, x, hx, hm⟩

set_option maxRecDepth 100000 in
set_option maxHeartbeats 4000000 in
theorem allMarks_any (v : Value) (ys : List EM) (w : World) (h : Evs w v ys) (hA : ∀ y ∈ ys, Evt.IsR y.1) (hl : ys.length ≤ 1000000) :
    Calls Tryd.prog 46 #[v] w fun ed w' => (∃ v', ed = .returned v' ∧ Ints w' v' (Evt.mk (ys.map Prod.fst)) ∧ Own w.heap.size v' ∧ Inn w' v') ∧ Below w.heap.size w w' := by
  obtain ⟨i0, hi, hz0, hz1, hz2⟩ := info_parts infoI
  have HC := Lib.hid h
  have HA := Lib.hid hA
  obtain ⟨p0, c0, rfl, hl1⟩ := sl_shape h.row
  clear h hA
  go_enter Tryd.func46, Tryd.ntmps46
  go_wp2
  go_loopw [13] (fun i wr => MRel1 ys w i wr) (fun i _ => ys.length - (intOf i).toNat)
  case atStart => exact ⟨0, Nat.zero_le _, rfl, Set5.start _, (Below.refl _ _).alloc (Nat.le_refl _) _⟩
  case round =>
    obtain ⟨k, hk, rfl, hs, hB⟩ := hrel
    have HS := Lib.hid hs
    clear hs
    by_cases hlt : k < ys.length
    · obtain ⟨y, hy⟩ : ∃ y, ys[k]? = some y := ⟨_, List.getElem?_eq_getElem hlt⟩
      have hyR := HC.out.each y (List.mem_of_getElem? hy)
      obtain ⟨p1, c1, p2, c2, p3, c3, hys⟩ := evs_shape hyR
      have hat := evs_at HC.out hy
      generalize y.1 = x at *
      subst hys
      obtain ⟨k0, ps, ts, b, d, n, e0, ms, str⟩ := x
      obtain ⟨b1, o1, e1, hc0, hc1, hc2, hc3, hc4, hc5, hc6, hc7, hc8⟩ := hat
      subst e1
      dsimp only at hyR hc0 hc1 hc2 hc3 hc4 hc5 hc6 hc7 hc8
      have hsz := hyR.sz
      replace hc0 := cell_later hB hc0
      replace hc1 := cell_later hB hc1
      replace hc2 := cell_later hB hc2
      replace hc3 := cell_later hB hc3
      replace hc4 := cell_later hB hc4
      replace hc5 := cell_later hB hc5
      replace hc6 := cell_later hB hc6
      replace hc7 := cell_later hB hc7
      replace hc8 := cell_later hB hc8
      have HER : Hid (EvR wr (.slice p1 ps.length c1) (.slice p2 ts.length c2) (.slice p3 ms.length c3) ⟨k0, ps, ts, b, d, n, e0, ms, str⟩) := Lib.hid (hyR.later hB)
      have HY := Lib.hid hy
      have hlt' : (k : Int) < (ys.length : Int) := by omega
      have HEW := Lib.hid hyR
      clear hy hyR
      have hyA := HA.out _ (List.mem_of_getElem? HY.out)
      have HMB := Lib.hid hyA.marks
      have zB : w.heap.size < wr.heap.size := World.block_lt_of_cell? _ _ (HS.out.at_ 0 (by decide))
      have hm8 : ms.length ≤ 1000000 := Nat.le_trans hyA.ms4 (by decide)
      dsimp only at HMB
      clear hyA
      go_wp2
      go_loopw [20] (fun i wr2 => MRel2 ms (marksOf (ys.take k)) w i wr2) (fun i _ => ms.length - (intOf i).toNat)
      case atStart => exact ⟨0, Nat.zero_le _, rfl, by rw [List.take_zero, List.append_nil]; exact HS.out.later ((Below.refl _ _).alloc (Nat.le_refl _) _), alloc_below hB⟩
      case round =>
        obtain ⟨j, hj, rfl, hs2, hB2⟩ := hrel
        have HS2 := Lib.hid hs2
        clear hs2
        by_cases hlt2 : j < ms.length
        · obtain ⟨m, hm⟩ : ∃ m, ms[j]? = some m := ⟨_, List.getElem?_eq_getElem hlt2⟩
          have hmb := HMB.out m (List.mem_of_getElem? hm)
          obtain ⟨b2, o2, e2, hcm⟩ := ints_at HEW.out.ms hm
          obtain ⟨q, rfl⟩ : ∃ q : Nat, m = (q : Int) := ⟨m.toNat, by omega⟩
          subst e2
          replace hcm := cell_later hB2 hcm
          obtain ⟨bq, hbq⟩ : ∃ x, wr.cell? ⟨w.heap.size, q, none⟩ = some (.bool x) := ⟨_, HS2.out.at_ q (by omega)⟩
          have hfq := HS2.out.frz q (by omega)
          have HM := Lib.hid hm
          have hq0 : (0 : Int) ≤ (q : Int) := by omega
          have hq5 : (q : Int) < 5 := by omega
          have hq5' : q < 5 := by omega
          have hlt2' : (j : Int) < (ms.length : Int) := by omega
          clear hm hmb
          go_wp2
          go_roundw
          case rel => exact ⟨j + 1, by omega, by go_num, by rw [take_succ_at HM.out, ← List.append_assoc]; exact HS2.out.store hq5', set1_below hB2 (Nat.le_refl _)⟩
          case measure => simp [intOf]; omega
        · obtain rfl : j = ms.length := by omega
          have HS3 : Hid (Set5 wr w.heap.size (marksOf (ys.take (k + 1)))) := Lib.hid (by rw [marksOf_take HY.out]; have := HS2.out; rwa [List.take_length] at this)
          go_wp2
          go_roundw
          case rel => exact ⟨k + 1, by omega, by go_num, HS3.out, hB2⟩
          case measure => simp [intOf]; omega
    · obtain rfl : k = ys.length := by omega
      have HS3 : Hid (Set5 wr w.heap.size (marksOf ys)) := Lib.hid (by have := HS.out; rwa [List.take_length] at this)
      have HMK := Lib.hid (pick5_mk HA.out)
      generalize marksOf ys = S at *
      obtain ⟨f0, g0⟩ : ∃ x, S.contains ((0 : Nat) : Int) = x := ⟨_, rfl⟩
      have c0 := HS3.out.at_ 0 (by decide)
      rw [g0] at c0
      obtain ⟨f1, g1⟩ : ∃ x, S.contains ((1 : Nat) : Int) = x := ⟨_, rfl⟩
      have c1 := HS3.out.at_ 1 (by decide)
      rw [g1] at c1
      obtain ⟨f2, g2⟩ : ∃ x, S.contains ((2 : Nat) : Int) = x := ⟨_, rfl⟩
      have c2 := HS3.out.at_ 2 (by decide)
      rw [g2] at c2
      obtain ⟨f3, g3⟩ : ∃ x, S.contains ((3 : Nat) : Int) = x := ⟨_, rfl⟩
      have c3 := HS3.out.at_ 3 (by decide)
      rw [g3] at c3
      obtain ⟨f4, g4⟩ : ∃ x, S.contains ((4 : Nat) : Int) = x := ⟨_, rfl⟩
      have c4 := HS3.out.at_ 4 (by decide)
      rw [g4] at c4
      have HIX : Hid (∀ k : Nat, k < 5 → ∃ x, S.contains (k : Int) = x ∧ ∀ W, (Instr.index 141 (.agg #[.bool f0, .bool f1, .bool f2, .bool f3, .bool f4]) (.int .i64 (k : Int))).run Tryd.prog W = .ok (.bool x) W) := Lib.hid (by
        intro k hk
        obtain rfl | rfl | rfl | rfl | rfl : k = 0 ∨ k = 1 ∨ k = 2 ∨ k = 3 ∨ k = 4 := by omega
        · exact ⟨f0, g0, fun W => by kernel_rfl⟩
        · exact ⟨f1, g1, fun W => by kernel_rfl⟩
        · exact ⟨f2, g2, fun W => by kernel_rfl⟩
        · exact ⟨f3, g3, fun W => by kernel_rfl⟩
        · exact ⟨f4, g4, fun W => by kernel_rfl⟩)
      clear g0 g1 g2 g3 g4
      have zB : w.heap.size < wr.heap.size := World.block_lt_of_cell? _ _ c0
      go_wp2
      go_loopw [8, 29] (fun v i wr2 => MRel3 S w v i wr2) (fun _ i _ => 5 - (intOf i).toNat)
      case atStart => exact ⟨0, by omega, rfl, by simp [pick5], World.ownsRow_nil _ _ _ _, zB, hB⟩
      case round =>
        obtain ⟨k, hk5, rfl, hpl, hown, zB3, hB3⟩ := hrel
        have HO := Lib.hid hown
        clear hown
        by_cases hlt : k < 5
        · obtain ⟨x, hx, hidx⟩ := HIX.out k hlt
          have hk0 : (k : Int) < 5 := by omega
          have HP := Lib.hid (pick5_succ S k)
          have HX := Lib.hid hx
          clear hx
          cases x
          · go_wp2
            go_roundw
            case rel => exact ⟨k + 1, by omega, by go_num, by rw [HP.out, HX.out]; simp; omega, by rw [HP.out, HX.out]; simpa using HO.out, zB3, hB3⟩
            case measure => simp [intOf]; omega
          · go_wp2_with (first
              | (at_builtin; refine wpList_append_own _ rfl _ _ 26 rfl (w.heap.size + 1) 3 i0 (.int .i64 0) 1 8 Tryd.underlying26 hi hz0 hz1 hz2 rfl (by decide) _ _ _ rfl (HO.out.alloc _) ⟨wr.heap.size, 0, none⟩ 1 1 [.int .i64 (k : Int)] rfl rfl (cells1_new _ _ _ rfl) (by intro u hu; simp at hu; subst hu; rfl) (by unfold maxLen; omega) (by omega) (by simp; omega) ?_; intro v' w2 hown2 hgrow _)
              | fail)
            have hb2 : Below w.heap.size (wr.alloc (.cells #[.int .i64 (k : Int)] 3)) w2 := (Below.refl _ _).grown hgrow (by simp; omega) (fun j hj => by have := (HO.out.lt j hj).1; omega)
            have hz4 : w.heap.size < w2.heap.size := by have := hgrow.size; simp at this; omega
            have HB4 := Lib.hid ((alloc_below hB3).trans hb2)
            have HN : Hid (pick5 S (k + 1) = pick5 S k ++ [(k : Int)]) := Lib.hid (by rw [HP.out, HX.out]; rfl)
            have HO2 : Hid (w2.ownsRow (w.heap.size + 1) 3 1 v' (pick5 S (k + 1)).length ((pick5 S (k + 1)).flatMap encI)) := Lib.hid (by rw [HN.out, List.length_append, List.flatMap_append]; simpa [encI] using hown2)
            clear hb2 hown2 hgrow
            go_wp2
            go_roundw
            case rel => exact ⟨k + 1, by omega, by go_num, by rw [HN.out, List.length_append]; simp; omega, HO2.out, hz4, HB4.out⟩
            case measure => simp [intOf]; omega
        · obtain rfl : k = 5 := by omega
          have HV := Lib.hid (row_sl lenI rfl (by omega) HO.out)
          have HW := Lib.hid (own_row HO.out)
          have HIN : Hid (Inn wr u8) := Lib.hid (fun g hg => (HO.out.lt g hg).2)
          go_wp2
          go_ret
          exact ⟨⟨_, rfl, by rw [← HMK.out]; exact HV.out, HW.out.mono (by omega), HIN.out⟩, hB3⟩
end Go.Proofs.YtnfnonlbokddfaaDoor
