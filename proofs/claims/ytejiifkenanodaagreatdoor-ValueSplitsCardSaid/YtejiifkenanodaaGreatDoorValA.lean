/-
  What the walks of layer 4 share; the contracts of package value's small functions, of Right and of Length.
-/
import Derived.Test.YtejiifkenanodaaGreatDoorRatH
import Derived.Test.YtejiifkenanodaaGreatDoorValMath
namespace Go.Proofs.YtejiifkenanodaaGreatDoor
open Go.RowKit

theorem cell_drew {w : World} {a : Addr} {v : Value} (h : w.cell? a = some v) : w.drew.cell? a = some v := h
theorem held_drew {w : World} {a : Addr} (h : w.cell? a = some (heldAt w a)) : w.drew.cell? a = some (heldAt w.drew a) := h
theorem frozen_drew {w : World} {a : Addr} (h : w.frozen? a = false) : w.drew.frozen? a = false := h
theorem set_far {w : World} {B o b o' : Nat} {x v : Value} (h : b ≠ B) (hc : w.cell? ⟨b, o', none⟩ = some v) : (w.setCell ⟨B, o, none⟩ x).cell? ⟨b, o', none⟩ = some v := by
  rw [World.cell?_setCell_far _ _ _ _ (Ne.symm h)]; exact hc
theorem set_beside {w : World} {B o o' : Nat} {x v : Value} (h : o ≠ o') (hc : w.cell? ⟨B, o', none⟩ = some v) : (w.setCell ⟨B, o, none⟩ x).cell? ⟨B, o', none⟩ = some v := by
  rw [World.cell?_setCell_other _ _ _ _ (fun e => h (by cases e; rfl))]; exact hc
theorem set_same {w : World} {B o : Nat} {x : Value} (h : w.cell? ⟨B, o, none⟩ = some (heldAt w ⟨B, o, none⟩)) : (w.setCell ⟨B, o, none⟩ x).cell? ⟨B, o, none⟩ = some x :=
  World.cell?_setCell_same' _ _ _ (by rw [h]; rfl)
theorem set_held {w : World} {p : Addr} {a : Addr} {x : Value} (h : w.cell? a = some (heldAt w a)) : (w.setCell p x).cell? a = some (heldAt (w.setCell p x) a) := by
  obtain ⟨v1, h1⟩ := cell?_setCell_some (p := p) (x := x) h
  exact held_of h1
theorem set_frozen {w : World} {p a : Addr} {x : Value} (h : w.frozen? a = false) : (w.setCell p x).frozen? a = false := by
  rw [World.frozen?_setCell]; exact h
theorem set1_below {n B o : Nat} {w W : World} {x : Value} (h : Below n w W) (hB : n ≤ B) : Below n w (W.setCell ⟨B, o, none⟩ x) := h.setCell hB _
theorem set_below {n : Nat} {w W : World} {p : Addr} {x : Value} (h : Below n w W) (hB : n ≤ p.block) : Below n w (W.setCell p x) := h.setCell hB _
theorem alloc_cell {w : World} {a : Addr} {v : Value} {o : Obj} (h : w.cell? a = some v) : (w.alloc o).cell? a = some v := cell_later ((Below.refl _ _).alloc (Nat.le_refl _) o) h
theorem alloc_below {w W : World} {o : Obj} (h : Below w.heap.size w W) : Below w.heap.size w (W.alloc o) := h.alloc h.size o
theorem alloc_frozen {w : World} {a : Addr} {v : Value} {o : Obj} (h : w.cell? a = some v) (hf : w.frozen? a = false) : (w.alloc o).frozen? a = false := frozen_later ((Below.refl _ _).alloc (Nat.le_refl _) o) h hf
/-- Two cells, three cells stored one behind the other. -/
abbrev put2 (w : World) (B : Nat) (x y : Value) : World := (w.setCell ⟨B, 0, none⟩ x).setCell ⟨B, 1, none⟩ y
abbrev put3 (w : World) (B : Nat) (x y z : Value) : World := ((w.setCell ⟨B, 0, none⟩ x).setCell ⟨B, 1, none⟩ y).setCell ⟨B, 2, none⟩ z
theorem set_back {w : World} {p : Addr} {x v : Value} (h : (w.setCell p x).cell? p = some v) : (w.setCell p x).cell? p = some x := by
  cases hc : w.cell? p with
  | some u => exact World.cell?_setCell_same w p x hc
  | none =>
    exfalso
    simp only [World.setCell, World.cell?, Array.getElem?_modify, if_true] at h hc
    cases hb : w.heap[p.block]? with
    | none => rw [hb] at h; simp at h
    | some o =>
      rw [hb] at h hc
      cases o <;> simp at h hc
      have hc' := hc h.1
      have := h.2
      rw [if_neg (by rw [h.1]; decide), Array.getElem?_eq_none (by rw [Array.size_setIfInBounds]; exact hc')] at this
      cases this
theorem put2_at {w : World} {B : Nat} {x y v0 v1 : Value} (h0 : (put2 w B x y).cell? ⟨B, 0, none⟩ = some v0) (h1 : (put2 w B x y).cell? ⟨B, 1, none⟩ = some v1) :
    (put2 w B x y).cell? ⟨B, 0, none⟩ = some x ∧ (put2 w B x y).cell? ⟨B, 1, none⟩ = some y := by
  refine ⟨?_, set_back h1⟩
  have e : (put2 w B x y).cell? ⟨B, 0, none⟩ = (w.setCell ⟨B, 0, none⟩ x).cell? ⟨B, 0, none⟩ := World.cell?_setCell_other _ _ _ _ (by simp)
  rw [e] at h0 ⊢
  exact set_back h0
theorem put3_at {w : World} {B : Nat} {x y z v0 v1 v2 : Value} (h0 : (put3 w B x y z).cell? ⟨B, 0, none⟩ = some v0) (h1 : (put3 w B x y z).cell? ⟨B, 1, none⟩ = some v1) (h2 : (put3 w B x y z).cell? ⟨B, 2, none⟩ = some v2) :
    (put3 w B x y z).cell? ⟨B, 0, none⟩ = some x ∧ (put3 w B x y z).cell? ⟨B, 1, none⟩ = some y ∧ (put3 w B x y z).cell? ⟨B, 2, none⟩ = some z := by
  have e0 : (put3 w B x y z).cell? ⟨B, 0, none⟩ = (put2 w B x y).cell? ⟨B, 0, none⟩ := World.cell?_setCell_other _ _ _ _ (by simp)
  have e1 : (put3 w B x y z).cell? ⟨B, 1, none⟩ = (put2 w B x y).cell? ⟨B, 1, none⟩ := World.cell?_setCell_other _ _ _ _ (by simp)
  rw [e0] at h0 ⊢
  rw [e1] at h1 ⊢
  obtain ⟨a, b⟩ := put2_at h0 h1
  exact ⟨a, b, set_back h2⟩
theorem put2_of {w : World} {B : Nat} {x y v0 v1 : Value} (h0 : w.cell? ⟨B, 0, none⟩ = some v0) (h1 : w.cell? ⟨B, 1, none⟩ = some v1) :
    (put2 w B x y).cell? ⟨B, 0, none⟩ = some x ∧ (put2 w B x y).cell? ⟨B, 1, none⟩ = some y :=
  put2_at (set_held (set_held (held_of h0))) (set_held (set_held (held_of h1)))
theorem put3_of {w : World} {B : Nat} {x y z v0 v1 v2 : Value} (h0 : w.cell? ⟨B, 0, none⟩ = some v0) (h1 : w.cell? ⟨B, 1, none⟩ = some v1) (h2 : w.cell? ⟨B, 2, none⟩ = some v2) :
    (put3 w B x y z).cell? ⟨B, 0, none⟩ = some x ∧ (put3 w B x y z).cell? ⟨B, 1, none⟩ = some y ∧ (put3 w B x y z).cell? ⟨B, 2, none⟩ = some z :=
  put3_at (set_held (set_held (set_held (held_of h0)))) (set_held (set_held (set_held (held_of h1)))) (set_held (set_held (set_held (held_of h2))))
theorem put2_below {n B : Nat} {w W : World} {x y : Value} (h : Below n w W) (hB : n ≤ B) : Below n w (put2 W B x y) := (h.setCell hB _).setCell hB _
theorem put3_below {n B : Nat} {w W : World} {x y z : Value} (h : Below n w W) (hB : n ≤ B) : Below n w (put3 W B x y z) := ((h.setCell hB _).setCell hB _).setCell hB _


abbrev put4 (w : World) (B : Nat) (x y z u : Value) : World := (((w.setCell ⟨B, 0, none⟩ x).setCell ⟨B, 1, none⟩ y).setCell ⟨B, 2, none⟩ z).setCell ⟨B, 3, none⟩ u
theorem put4_of {w : World} {B : Nat} {x y z u v0 v1 v2 v3 : Value} (h0 : w.cell? ⟨B, 0, none⟩ = some v0) (h1 : w.cell? ⟨B, 1, none⟩ = some v1) (h2 : w.cell? ⟨B, 2, none⟩ = some v2) (h3 : w.cell? ⟨B, 3, none⟩ = some v3) :
    (put4 w B x y z u).cell? ⟨B, 0, none⟩ = some x ∧ (put4 w B x y z u).cell? ⟨B, 1, none⟩ = some y ∧ (put4 w B x y z u).cell? ⟨B, 2, none⟩ = some z ∧ (put4 w B x y z u).cell? ⟨B, 3, none⟩ = some u := by
  obtain ⟨a, b, c⟩ := put3_of (x := x) (y := y) (z := z) h0 h1 h2
  exact ⟨set_beside (by decide) a, set_beside (by decide) b, set_beside (by decide) c, set_same (set_held (set_held (set_held (held_of h3))))⟩
theorem put4_below {n B : Nat} {w W : World} {x y z u : Value} (h : Below n w W) (hB : n ≤ B) : Below n w (put4 W B x y z u) := (put3_below h hB).setCell hB _

/-- A value, as a value of Go's. -/
abbrev vl (b d n e : Int) : Value := .agg #[.int .i64 b, .int .i64 d, .int .i64 n, .int .i64 e]
/-- What package value's variables hold, and the library's. -/
structure Vars (w : World) : Prop where
  lib : Ready w
  base : ∀ j : Nat, j < 7 → w.cell? ⟨0, j, none⟩ = some (.int .i64 (Val.ba j))
  dot : ∀ j : Nat, j < 3 → w.cell? ⟨1, j, none⟩ = some (.int .i64 (Val.dt j))
  kind : ∀ j : Nat, j < 16 → w.cell? ⟨2, j, none⟩ = some (.int .i64 ([0, 0, 0, 0, 0, 0, 3, 2, 0, 0, 5, 4, 0, 0, 7, 4].getD j 0))
theorem Vars.below {w w' : World} (h : Vars w) (hb : Below w.heap.size w w') : Vars w' :=
  ⟨h.lib.below hb, fun j hj => cell_later hb (h.base j hj), fun j hj => cell_later hb (h.dot j hj), fun j hj => cell_later hb (h.kind j hj)⟩
theorem Vars.baseI {w : World} (h : Vars w) {b : Int} (h0 : 0 ≤ b) (h6 : b ≤ 6) : w.cell? ⟨0, b.toNat, none⟩ = some (.int .i64 (Val.ba b)) := by
  have := h.base b.toNat (by omega)
  rw [show ((b.toNat : Nat) : Int) = b by omega] at this
  exact this
theorem Vars.dotI {w : World} (h : Vars w) {d : Int} (h0 : 0 ≤ d) (h2 : d ≤ 2) : w.cell? ⟨1, d.toNat, none⟩ = some (.int .i64 (Val.dt d)) := by
  have := h.dot d.toNat (by omega)
  rw [show ((d.toNat : Nat) : Int) = d by omega] at this
  exact this

theorem vwithin_any (n l m : Int) (w : World) :
    Calls Tryz.prog 46 #[.int .i64 n, .int .i64 l, .int .i64 m] w fun e w' => e = .returned (.bool (decide (l ≤ n ∧ n ≤ m))) ∧ w = w' := by
  by_cases h1 : l ≤ n
  · by_cases h2 : n ≤ m
    · rw [decide_eq_true (⟨h1, h2⟩ : l ≤ n ∧ n ≤ m)]
      go_enter Tryz.func46, Tryz.ntmps46
      go_wp2
      go_ret
      exact ⟨rfl, rfl⟩
    · rw [decide_eq_false (fun h : l ≤ n ∧ n ≤ m => h2 h.2)]
      go_enter Tryz.func46, Tryz.ntmps46
      go_wp2
      go_ret
      exact ⟨rfl, rfl⟩
  · rw [decide_eq_false (fun h : l ≤ n ∧ n ≤ m => h1 h.1)]
    go_enter Tryz.func46, Tryz.ntmps46
    go_wp2
    go_ret
    exact ⟨rfl, rfl⟩
theorem vwithin_is {n l m : Int} {b : Bool} (h : decide (l ≤ n ∧ n ≤ m) = b) (w : World) :
    Calls Tryz.prog 46 #[.int .i64 n, .int .i64 l, .int .i64 m] w fun e w' => e = .returned (.bool b) ∧ w = w' := by
  have := vwithin_any n l m w
  rw [h] at this
  exact this

set_option maxRecDepth 100000 in
set_option maxHeartbeats 4000000 in
theorem plain_any (b d n e : Int) (w : World) :
    Calls Tryz.prog 43 #[vl b d n e] w fun e w' => e = .returned (.bool (n == 0)) ∧ Below w.heap.size w w' := by
  go_enter Tryz.func43, Tryz.ntmps43
  go_wp2
  go_ret
  exact ⟨rfl, (by repeat (first | exact Below.refl _ _ | refine below_drewN ?_ _ | refine Below.drew ?_ | refine Below.setCell ?_ (by simp <;> omega) _ | refine Below.alloc ?_ (by simp <;> omega) _))⟩

set_option maxRecDepth 100000 in
set_option maxHeartbeats 4000000 in
theorem as_any (b d n e x y : Int) (w : World) :
    Calls Tryz.prog 54 #[vl b d n e, .int .i64 x, .int .i64 y] w fun ed w' => ed = .returned (vl x y n e) ∧ Below w.heap.size w w' := by
  go_enter Tryz.func54, Tryz.ntmps54
  go_wp2
  exact bodyPost_ret (v := vl x y n e) (by simp [results, Tryz.results54, go_sem]) rfl ⟨rfl, (by repeat (first | exact Below.refl _ _ | refine below_drewN ?_ _ | refine Below.drew ?_ | refine Below.setCell ?_ (by simp <;> omega) _ | refine Below.alloc ?_ (by simp <;> omega) _))⟩

set_option maxRecDepth 100000 in
set_option maxHeartbeats 4000000 in
theorem tuplet_no (b d n e : Int) (w : World) (hn : (n == 0) = true) :
    Calls Tryz.prog 40 #[vl b d n e] w fun e w' => e = .returned (.tuple #[.int .i64 1, .int .i64 1]) ∧ Below w.heap.size w w' := by
  have hB0 : Below w.heap.size w w := Below.refl _ _
  go_enter Tryz.func40, Tryz.ntmps40
  go_wp2_with fail
  refine (plain_any b d n e _).mono ?_
  rintro e w1 ⟨rfl, hb1⟩
  have hs1 : Below w.heap.size w w1 := Below.trans (by repeat (first | exact Below.refl _ _ | refine Below.alloc ?_ (by simp <;> omega) _)) (hb1.mono (by simp <;> omega))
  have c_v_0 : w1.cell? ⟨w.heap.size, 0, none⟩ = some (.int .i64 b) := (hb1.cell (by simp <;> omega)).trans (by go_simp)
  have c_v_1 : w1.cell? ⟨w.heap.size, 1, none⟩ = some (.int .i64 d) := (hb1.cell (by simp <;> omega)).trans (by go_simp)
  have c_v_2 : w1.cell? ⟨w.heap.size, 2, none⟩ = some (.int .i64 n) := (hb1.cell (by simp <;> omega)).trans (by go_simp)
  have c_v_3 : w1.cell? ⟨w.heap.size, 3, none⟩ = some (.int .i64 e) := (hb1.cell (by simp <;> omega)).trans (by go_simp)
  have z_v := World.block_lt_of_cell? _ _ c_v_0
  have hB1 := below_two hB0 hs1
  clear hB0 hs1 hb1
  rw [hn]
  go_wp2
  go_ret2
  exact ⟨rfl, hB1⟩

set_option maxRecDepth 100000 in
set_option maxHeartbeats 4000000 in
theorem tuplet_yes (b d n e : Int) (w : World) (hn : (n == 0) = false) :
    Calls Tryz.prog 40 #[vl b d n e] w fun ed w' => ed = .returned (.tuple #[.int .i64 n, .int .i64 e]) ∧ Below w.heap.size w w' := by
  have hB0 : Below w.heap.size w w := Below.refl _ _
  go_enter Tryz.func40, Tryz.ntmps40
  go_wp2_with fail
  refine (plain_any b d n e _).mono ?_
  rintro e w1 ⟨rfl, hb1⟩
  have hs1 : Below w.heap.size w w1 := Below.trans (by repeat (first | exact Below.refl _ _ | refine Below.alloc ?_ (by simp <;> omega) _)) (hb1.mono (by simp <;> omega))
  have c_v_0 : w1.cell? ⟨w.heap.size, 0, none⟩ = some (.int .i64 b) := (hb1.cell (by simp <;> omega)).trans (by go_simp)
  have c_v_1 : w1.cell? ⟨w.heap.size, 1, none⟩ = some (.int .i64 d) := (hb1.cell (by simp <;> omega)).trans (by go_simp)
  have c_v_2 : w1.cell? ⟨w.heap.size, 2, none⟩ = some (.int .i64 n) := (hb1.cell (by simp <;> omega)).trans (by go_simp)
  have c_v_3 : w1.cell? ⟨w.heap.size, 3, none⟩ = some (.int .i64 e) := (hb1.cell (by simp <;> omega)).trans (by go_simp)
  have z_v := World.block_lt_of_cell? _ _ c_v_0
  have hB1 := below_two hB0 hs1
  clear hB0 hs1 hb1
  rw [hn]
  go_wp2
  go_quiet (fail)
  go_wp2
  go_ret2
  exact ⟨rfl, below_drewN hB1 _⟩

theorem tuplet_any (b d n e : Int) (w : World) :
    Calls Tryz.prog 40 #[vl b d n e] w fun e' w' => e' = .returned (.tuple #[.int .i64 (Val.tn n), .int .i64 (Val.te n e)]) ∧ Below w.heap.size w w' := by
  unfold Val.tn Val.te
  by_cases h : n = 0
  · rw [if_pos h, if_pos h]; exact tuplet_no b d n e w (by simpa using h)
  · rw [if_neg h, if_neg h]; exact tuplet_yes b d n e w (by simpa using h)
end Go.Proofs.YtejiifkenanodaaGreatDoor
