/-
  What the walks of layer 3 share; the contracts of package pitch's inner functions within, natural, number.
-/
import Derived.Test.YtahcbgngdpjhkaaDoorRows
import Derived.WalkKit
import Derived.WalkSpells
import Derived.WalkLawsBesides
import Derived.PlainAid
import Derived.Lib.Hide
import Derived.Deep.QuietTactic
import Derived.BigQuiet
import Derived.Lib.QuietBelow
import Derived.Laws.StructEq
import Derived.Laws.EntriesVeiled
import Derived.Deep.RegionHeld3
import Derived.Deep.RegionWith
import Derived.Test.YtahcbgngdpjhkaaDoorKeyMath
namespace Go.Proofs.YtahcbgngdpjhkaaDoor
open Go.RowKit

/-- A pitch, an interval, as values. -/
abbrev pt (s a o : Int) : Value := .agg #[.int .i64 s, .int .i64 a, .int .i64 o]
abbrev iv (x y : Int) : Value := .agg #[.int .i64 x, .int .i64 y]
/-- What Up and Read answer. -/
abbrev pv (s a o e : Int) : Value := .tuple #[pt s a o, .int .i64 e]
theorem below_two {W w1 w2 : World} (h1 : Below W.heap.size W w1) (h2 : Below w1.heap.size w1 w2) : Below W.heap.size W w2 := h1.trans (h2.mono h1.size)
theorem frozen_later {w wx : World} {a : Addr} {v : Value} (hb : Below w.heap.size w wx) (h : w.cell? a = some v) (hf : w.frozen? a = false) : wx.frozen? a = false := (hb.frozen (World.block_lt_of_cell? w _ h)).trans hf
theorem bcell {W w1 : World} (hb : Below W.heap.size W w1) : (∀ b o, b < W.heap.size → w1.cell? ⟨b, o, none⟩ = W.cell? ⟨b, o, none⟩) ∧ (∀ b o, b < W.heap.size → w1.frozen? ⟨b, o, none⟩ = W.frozen? ⟨b, o, none⟩) :=
  ⟨fun b o h => hb.cell (p := ⟨b, o, none⟩) h, fun b o h => hb.frozen (p := ⟨b, o, none⟩) h⟩
theorem ret_bool {a b : Bool} (h : a = b) : Ending.returned (.bool a) = .returned (.bool b) := by rw [h]
theorem ret_int {k : IntKind} {a b : Int} (h : a = b) : Ending.returned (.int k a) = .returned (.int k b) := by rw [h]
/-- What a cell holds, under a name. -/
def heldAt (w : World) (a : Addr) : Value := (w.cell? a).getD undef
theorem held_of {w : World} {a : Addr} {v : Value} (h : w.cell? a = some v) : w.cell? a = some (heldAt w a) := by unfold heldAt; rw [h]; rfl
theorem held_later {w wx : World} {a : Addr} (hb : Below w.heap.size w wx) (h : w.cell? a = some (heldAt w a)) : wx.cell? a = some (heldAt wx a) := held_of (cell_later hb h)
theorem frozen_held {w wx : World} {a : Addr} (hb : Below w.heap.size w wx) (h : w.cell? a = some (heldAt w a)) (hf : w.frozen? a = false) : wx.frozen? a = false := frozen_later hb h hf

theorem cell_drew {w : World} {a : Addr} {v : Value} (h : w.cell? a = some v) : w.drew.cell? a = some v := h
theorem held_drew {w : World} {a : Addr} (h : w.cell? a = some (heldAt w a)) : w.drew.cell? a = some (heldAt w.drew a) := h
theorem frozen_drew {w : World} {a : Addr} (h : w.frozen? a = false) : w.drew.frozen? a = false := h
theorem set_far {w : World} {B o b o' : Nat} {x v : Value} (h : b ≠ B) (hc : w.cell? ⟨b, o', none⟩ = some v) : (w.setCell ⟨B, o, none⟩ x).cell? ⟨b, o', none⟩ = some v := by
  rw [World.cell?_setCell_far _ _ _ _ (Ne.symm h)]; exact hc
theorem set_beside {w : World} {B o o' : Nat} {x v : Value} (h : o ≠ o') (hc : w.cell? ⟨B, o', none⟩ = some v) : (w.setCell ⟨B, o, none⟩ x).cell? ⟨B, o', none⟩ = some v := by
  rw [World.cell?_setCell_other _ _ _ _ (fun e => h (by cases e; rfl))]; exact hc
theorem set_same {w : World} {B o : Nat} {x : Value} (h : w.cell? ⟨B, o, none⟩ = some (heldAt w ⟨B, o, none⟩)) : (w.setCell ⟨B, o, none⟩ x).cell? ⟨B, o, none⟩ = some x :=
  World.cell?_setCell_same' _ _ _ (by rw [h]; rfl)
theorem set_held {w : World} {p : Addr} {a : Addr} {x : Value} (h : w.cell? a = some (heldAt w a)) : (w.setCell p x).cell? a = some (heldAt (w.setCell p x) a) := by
  obtain ⟨v1, h1⟩ := cell?_setCell_some (p := p) (x := x) h
  exact held_of h1
theorem set_frozen {w : World} {p a : Addr} {x : Value} (h : w.frozen? a = false) : (w.setCell p x).frozen? a = false := by
  rw [World.frozen?_setCell]; exact h
theorem set1_below {n B o : Nat} {w W : World} {x : Value} (h : Below n w W) (hB : n ≤ B) : Below n w (W.setCell ⟨B, o, none⟩ x) := h.setCell hB _
theorem set_below {n : Nat} {w W : World} {p : Addr} {x : Value} (h : Below n w W) (hB : n ≤ p.block) : Below n w (W.setCell p x) := h.setCell hB _
theorem alloc_cell {w : World} {a : Addr} {v : Value} {o : Obj} (h : w.cell? a = some v) : (w.alloc o).cell? a = some v := cell_later ((Below.refl _ _).alloc (Nat.le_refl _) o) h
theorem alloc_below {w W : World} {o : Obj} (h : Below w.heap.size w W) : Below w.heap.size w (W.alloc o) := h.alloc h.size o
theorem alloc_frozen {w : World} {a : Addr} {v : Value} {o : Obj} (h : w.cell? a = some v) (hf : w.frozen? a = false) : (w.alloc o).frozen? a = false := frozen_later ((Below.refl _ _).alloc (Nat.le_refl _) o) h hf
/-- Two cells, three cells stored one behind the other. -/
abbrev put2 (w : World) (B : Nat) (x y : Value) : World := (w.setCell ⟨B, 0, none⟩ x).setCell ⟨B, 1, none⟩ y
abbrev put3 (w : World) (B : Nat) (x y z : Value) : World := ((w.setCell ⟨B, 0, none⟩ x).setCell ⟨B, 1, none⟩ y).setCell ⟨B, 2, none⟩ z
theorem set_back {w : World} {p : Addr} {x v : Value} (h : (w.setCell p x).cell? p = some v) : (w.setCell p x).cell? p = some x := by
  cases hc : w.cell? p with
  | some u => exact World.cell?_setCell_same w p x hc
  | none =>
    exfalso
    simp only [World.setCell, World.cell?, Array.getElem?_modify, if_true] at h hc
    cases hb : w.heap[p.block]? with
    | none => rw [hb] at h; simp at h
    | some o =>
      rw [hb] at h hc
      cases o <;> simp at h hc
      have hc' := hc h.1
      have := h.2
      rw [if_neg (by rw [h.1]; decide), Array.getElem?_eq_none (by rw [Array.size_setIfInBounds]; exact hc')] at this
      cases this
theorem put2_at {w : World} {B : Nat} {x y v0 v1 : Value} (h0 : (put2 w B x y).cell? ⟨B, 0, none⟩ = some v0) (h1 : (put2 w B x y).cell? ⟨B, 1, none⟩ = some v1) :
    (put2 w B x y).cell? ⟨B, 0, none⟩ = some x ∧ (put2 w B x y).cell? ⟨B, 1, none⟩ = some y := by
  refine ⟨?_, set_back h1⟩
  have e : (put2 w B x y).cell? ⟨B, 0, none⟩ = (w.setCell ⟨B, 0, none⟩ x).cell? ⟨B, 0, none⟩ := World.cell?_setCell_other _ _ _ _ (by simp)
  rw [e] at h0 ⊢
  exact set_back h0
theorem put3_at {w : World} {B : Nat} {x y z v0 v1 v2 : Value} (h0 : (put3 w B x y z).cell? ⟨B, 0, none⟩ = some v0) (h1 : (put3 w B x y z).cell? ⟨B, 1, none⟩ = some v1) (h2 : (put3 w B x y z).cell? ⟨B, 2, none⟩ = some v2) :
    (put3 w B x y z).cell? ⟨B, 0, none⟩ = some x ∧ (put3 w B x y z).cell? ⟨B, 1, none⟩ = some y ∧ (put3 w B x y z).cell? ⟨B, 2, none⟩ = some z := by
  have e0 : (put3 w B x y z).cell? ⟨B, 0, none⟩ = (put2 w B x y).cell? ⟨B, 0, none⟩ := World.cell?_setCell_other _ _ _ _ (by simp)
  have e1 : (put3 w B x y z).cell? ⟨B, 1, none⟩ = (put2 w B x y).cell? ⟨B, 1, none⟩ := World.cell?_setCell_other _ _ _ _ (by simp)
  rw [e0] at h0 ⊢
  rw [e1] at h1 ⊢
  obtain ⟨a, b⟩ := put2_at h0 h1
  exact ⟨a, b, set_back h2⟩
theorem put2_of {w : World} {B : Nat} {x y v0 v1 : Value} (h0 : w.cell? ⟨B, 0, none⟩ = some v0) (h1 : w.cell? ⟨B, 1, none⟩ = some v1) :
    (put2 w B x y).cell? ⟨B, 0, none⟩ = some x ∧ (put2 w B x y).cell? ⟨B, 1, none⟩ = some y :=
  put2_at (set_held (set_held (held_of h0))) (set_held (set_held (held_of h1)))
theorem put3_of {w : World} {B : Nat} {x y z v0 v1 v2 : Value} (h0 : w.cell? ⟨B, 0, none⟩ = some v0) (h1 : w.cell? ⟨B, 1, none⟩ = some v1) (h2 : w.cell? ⟨B, 2, none⟩ = some v2) :
    (put3 w B x y z).cell? ⟨B, 0, none⟩ = some x ∧ (put3 w B x y z).cell? ⟨B, 1, none⟩ = some y ∧ (put3 w B x y z).cell? ⟨B, 2, none⟩ = some z :=
  put3_at (set_held (set_held (set_held (held_of h0)))) (set_held (set_held (set_held (held_of h1)))) (set_held (set_held (set_held (held_of h2))))
theorem put2_below {n B : Nat} {w W : World} {x y : Value} (h : Below n w W) (hB : n ≤ B) : Below n w (put2 W B x y) := (h.setCell hB _).setCell hB _
theorem put3_below {n B : Nat} {w W : World} {x y z : Value} (h : Below n w W) (hB : n ≤ B) : Below n w (put3 W B x y z) := ((h.setCell hB _).setCell hB _).setCell hB _

/-- A key, as a value. -/
abbrev ky (f : Int) (m : Bool) : Value := .agg #[.int .i64 f, .bool m]
/-- What package key's variable holds; what package pitch's holds besides. -/
structure Lett (w : World) : Prop where
  lett : ∀ j : Nat, j < 7 → w.cell? ⟨0, j, none⟩ = some (.string ⟨(Key.leB (j : Int)).toArray⟩)
structure Ready (w : World) : Prop where
  half : ∀ j : Nat, j < 7 → w.cell? ⟨1, j, none⟩ = some (.int .i64 (Pit.hv j))
  lett : Lett w
theorem Lett.below {w w' : World} (h : Lett w) (hb : Below w.heap.size w w') : Lett w' := ⟨fun j hj => cell_later hb (h.lett j hj)⟩
theorem Ready.below {w w' : World} (h : Ready w) (hb : Below w.heap.size w w') : Ready w' :=
  ⟨fun j hj => cell_later hb (h.half j hj), h.lett.below hb⟩
theorem Ready.alloc {w : World} (h : Ready w) (o : Obj) : Ready (w.alloc o) := h.below ((Below.refl _ _).alloc (Nat.le_refl _) o)
theorem Ready.halfI {w : World} (h : Ready w) {s : Int} (h0 : 0 ≤ s) (h6 : s ≤ 6) : w.cell? ⟨1, s.toNat, none⟩ = some (.int .i64 (Pit.hv s)) := by
  have := h.half s.toNat (by omega)
  rw [show ((s.toNat : Nat) : Int) = s by omega] at this
  exact this
theorem Lett.lettI {w : World} (h : Lett w) {s : Int} (h0 : 0 ≤ s) (h6 : s ≤ 6) : w.cell? ⟨0, s.toNat, none⟩ = some (.string ⟨(Key.leB s).toArray⟩) := by
  have := h.lett s.toNat (by omega)
  rw [show ((s.toNat : Nat) : Int) = s by omega] at this
  exact this

theorem within_any (n l m : Int) (w : World) :
    Calls Tryd.prog 47 #[.int .i64 n, .int .i64 l, .int .i64 m] w fun e w' => e = .returned (.bool (decide (l ≤ n ∧ n ≤ m))) ∧ w = w' := by
  by_cases h1 : l ≤ n
  · by_cases h2 : n ≤ m
    · rw [decide_eq_true (⟨h1, h2⟩ : l ≤ n ∧ n ≤ m)]
      go_enter Tryd.func47, Tryd.ntmps47
      go_wp2
      go_ret
      exact ⟨rfl, rfl⟩
    · rw [decide_eq_false (fun h : l ≤ n ∧ n ≤ m => h2 h.2)]
      go_enter Tryd.func47, Tryd.ntmps47
      go_wp2
      go_ret
      exact ⟨rfl, rfl⟩
  · rw [decide_eq_false (fun h : l ≤ n ∧ n ≤ m => h1 h.1)]
    go_enter Tryd.func47, Tryd.ntmps47
    go_wp2
    go_ret
    exact ⟨rfl, rfl⟩
theorem within_yes {n l m : Int} (h1 : l ≤ n) (h2 : n ≤ m) (w : World) :
    Calls Tryd.prog 47 #[.int .i64 n, .int .i64 l, .int .i64 m] w fun e w' => e = .returned (.bool true) ∧ w = w' := by
  have := within_any n l m w
  rw [decide_eq_true (⟨h1, h2⟩ : l ≤ n ∧ n ≤ m)] at this
  exact this
theorem within_no {n l m : Int} (h : ¬ (l ≤ n ∧ n ≤ m)) (w : World) :
    Calls Tryd.prog 47 #[.int .i64 n, .int .i64 l, .int .i64 m] w fun e w' => e = .returned (.bool false) ∧ w = w' := by
  have := within_any n l m w
  rw [decide_eq_false h] at this
  exact this

set_option maxRecDepth 100000 in
set_option maxHeartbeats 1000000 in
theorem natural_any (s o : Int) (w : World) (hR : Ready w) (h0 : 0 ≤ s) (h6 : s ≤ 6) (o0 : -1 ≤ o) (o9 : o ≤ 100) :
    Calls Tryd.prog 49 #[.int .i64 s, .int .i64 o] w fun e w' => e = .returned (.int .i64 (Pit.num s 0 o)) ∧ Below w.heap.size w w' := by
  have hc := hR.halfI h0 h6
  have hv : -20 ≤ Pit.hv s ∧ Pit.hv s ≤ 20 := by rcases Pit.hv_cases s with ⟨_, e⟩ | ⟨_, e⟩ <;> omega
  have HN : Hid (Pit.num s 0 o = 12 * (o + 1) + Pit.hv s) := Lib.hid (by rw [Pit.num_eq]; omega)
  generalize Pit.hv s = v at *
  generalize Pit.num s 0 o = N at *
  clear hR
  go_enter Tryd.func49, Tryd.ntmps49
  go_wp2
  go_ret
  exact ⟨ret_int HN.out.symm, (by repeat (first | exact Below.refl _ _ | refine below_drewN ?_ _ | refine Below.drew ?_ | refine Below.setCell ?_ (by simp) _ | refine Below.alloc ?_ (by simp) _))⟩

set_option maxRecDepth 100000 in
set_option maxHeartbeats 4000000 in
theorem number_any (s a o : Int) (w : World) (hR : Ready w) (h0 : 0 ≤ s) (h6 : s ≤ 6) (a0 : -2 ≤ a) (a2 : a ≤ 2) (o0 : -1 ≤ o) (o9 : o ≤ 9) :
    Calls Tryd.prog 46 #[pt s a o] w fun e w' => e = .returned (.int .i64 (Pit.num s a o)) ∧ Below w.heap.size w w' := by
  have HN : Hid (Pit.num s 0 o + a = Pit.num s a o) := Lib.hid (by simp only [Pit.num_eq]; omega)
  have hv : -20 ≤ Pit.hv s ∧ Pit.hv s ≤ 20 := by rcases Pit.hv_cases s with ⟨_, e⟩ | ⟨_, e⟩ <;> omega
  have hn : -200 ≤ Pit.num s 0 o ∧ Pit.num s 0 o ≤ 200 := by simp only [Pit.num_eq]; omega
  have hC : ∀ w : World, Ready w → Calls Tryd.prog 49 #[.int .i64 s, .int .i64 o] w fun e w' => e = .returned (.int .i64 (Pit.num s 0 o)) ∧ Below w.heap.size w w' := fun w hR => natural_any s o w hR h0 h6 o0 (by omega)
  clear hv
  generalize Pit.num s 0 o = M at *
  generalize Pit.num s a o = N at *
  have HC := Lib.hid hC
  clear hC
  have hB0 : Below w.heap.size w w := Below.refl _ _
  go_enter Tryd.func46, Tryd.ntmps46
  go_wp2_with fail
  have hs1 : Below w.heap.size w (w.alloc (.cells #[.int .i64 s, .int .i64 a, .int .i64 o] 42)) := by repeat (first | exact Below.refl _ _ | refine Below.alloc ?_ (by simp <;> omega) _)
  have c_p_0 : (w.alloc (.cells #[.int .i64 s, .int .i64 a, .int .i64 o] 42)).cell? ⟨w.heap.size, 0, none⟩ = some (.int .i64 s) := by go_simp
  have c_p_1 : (w.alloc (.cells #[.int .i64 s, .int .i64 a, .int .i64 o] 42)).cell? ⟨w.heap.size, 1, none⟩ = some (.int .i64 a) := by go_simp
  have c_p_2 : (w.alloc (.cells #[.int .i64 s, .int .i64 a, .int .i64 o] 42)).cell? ⟨w.heap.size, 2, none⟩ = some (.int .i64 o) := by go_simp
  have hB1 := below_two hB0 hs1
  clear hB0 hs1
  generalize (w.alloc (.cells #[.int .i64 s, .int .i64 a, .int .i64 o] 42)) = w1 at *
  have z_p := World.block_lt_of_cell? _ _ c_p_0
  go_region_held3 (fun w' => w'.cell? ⟨w.heap.size, 0, none⟩ = some (.int .i64 s) ∧ w'.cell? ⟨w.heap.size, 1, none⟩ = some (.int .i64 a) ∧ w'.cell? ⟨w.heap.size, 2, none⟩ = some (.int .i64 o) ∧ Below w.heap.size w w')
    (((try go_split_ands); refine ⟨?_, ?_, ?_, ?_⟩ <;> first | with_reducible assumption | (with_reducible refine cell_later hq ?_; with_reducible assumption) | (with_reducible refine below_two ?_ hq; with_reducible assumption) | with_reducible exact cell_drew c_p_0 | with_reducible exact cell_drew c_p_1 | with_reducible exact cell_drew c_p_2 | with_reducible exact hB1.drew))
    (first
      | (go_at_call 49; (try go_split_ands); refine (HC.out _ (hR.below ?_)).mono ?_; assumption; rintro e w2 ⟨rfl, hq⟩))
  rename_i hS
  clear c_p_0 c_p_1 c_p_2 hB1 z_p
  obtain ⟨c_p_0, c_p_1, c_p_2, hB2⟩ := hS
  have z_p := World.block_lt_of_cell? _ _ c_p_0
  go_wp2
  go_ret
  exact ⟨ret_int ((IntWalk.i64_in _ (by omega)).trans HN.out), hB2⟩
end Go.Proofs.YtahcbgngdpjhkaaDoor
