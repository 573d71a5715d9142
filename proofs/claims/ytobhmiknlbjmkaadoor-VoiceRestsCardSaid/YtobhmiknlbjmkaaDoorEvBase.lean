/-
  What the walks of layer 6 share: worlds, cells, stores.
-/
import Derived.Test.YtobhmiknlbjmkaaDoorRows
import Derived.WalkKit
import Derived.WalkSpells
import Derived.WalkLawsBesides
import Derived.PlainAid
import Derived.Lib.Hide
import Derived.Deep.QuietTactic
import Derived.BigQuiet
import Derived.Lib.QuietBelow
import Derived.Laws.StructEq
import Derived.Laws.EntriesVeiled
import Derived.Deep.RegionHeld3
import Derived.Deep.RegionWith
import Derived.OwnWalk
import Derived.LoopN
import Derived.Lib.DecodeN
import Derived.Test.YtobhmiknlbjmkaaDoorRatMath
import Derived.Test.YtobhmiknlbjmkaaDoorPitMath
import Derived.Test.YtobhmiknlbjmkaaDoorValMath
namespace Go.Proofs.YtobhmiknlbjmkaaDoor
open Go.RowKit

theorem below_two {W w1 w2 : World} (h1 : Below W.heap.size W w1) (h2 : Below w1.heap.size w1 w2) : Below W.heap.size W w2 := h1.trans (h2.mono h1.size)
theorem frozen_later {w wx : World} {a : Addr} {v : Value} (hb : Below w.heap.size w wx) (h : w.cell? a = some v) (hf : w.frozen? a = false) : wx.frozen? a = false := (hb.frozen (World.block_lt_of_cell? w _ h)).trans hf
theorem bcell {W w1 : World} (hb : Below W.heap.size W w1) : (∀ b o, b < W.heap.size → w1.cell? ⟨b, o, none⟩ = W.cell? ⟨b, o, none⟩) ∧ (∀ b o, b < W.heap.size → w1.frozen? ⟨b, o, none⟩ = W.frozen? ⟨b, o, none⟩) :=
  ⟨fun b o h => hb.cell (p := ⟨b, o, none⟩) h, fun b o h => hb.frozen (p := ⟨b, o, none⟩) h⟩
theorem ret_bool {a b : Bool} (h : a = b) : Ending.returned (.bool a) = .returned (.bool b) := by rw [h]
theorem ret_int {k : IntKind} {a b : Int} (h : a = b) : Ending.returned (.int k a) = .returned (.int k b) := by rw [h]
/-- What a cell holds, under a name. -/
def heldAt (w : World) (a : Addr) : Value := (w.cell? a).getD undef
theorem held_of {w : World} {a : Addr} {v : Value} (h : w.cell? a = some v) : w.cell? a = some (heldAt w a) := by unfold heldAt; rw [h]; rfl
theorem held_later {w wx : World} {a : Addr} (hb : Below w.heap.size w wx) (h : w.cell? a = some (heldAt w a)) : wx.cell? a = some (heldAt wx a) := held_of (cell_later hb h)
theorem frozen_held {w wx : World} {a : Addr} (hb : Below w.heap.size w wx) (h : w.cell? a = some (heldAt w a)) (hf : w.frozen? a = false) : wx.frozen? a = false := frozen_later hb h hf
theorem cell_drew {w : World} {a : Addr} {v : Value} (h : w.cell? a = some v) : w.drew.cell? a = some v := h
theorem held_drew {w : World} {a : Addr} (h : w.cell? a = some (heldAt w a)) : w.drew.cell? a = some (heldAt w.drew a) := h
theorem frozen_drew {w : World} {a : Addr} (h : w.frozen? a = false) : w.drew.frozen? a = false := h
theorem set_far {w : World} {B o b o' : Nat} {x v : Value} (h : b ≠ B) (hc : w.cell? ⟨b, o', none⟩ = some v) : (w.setCell ⟨B, o, none⟩ x).cell? ⟨b, o', none⟩ = some v := by
  rw [World.cell?_setCell_far _ _ _ _ (Ne.symm h)]; exact hc
theorem set_beside {w : World} {B o o' : Nat} {x v : Value} (h : o ≠ o') (hc : w.cell? ⟨B, o', none⟩ = some v) : (w.setCell ⟨B, o, none⟩ x).cell? ⟨B, o', none⟩ = some v := by
  rw [World.cell?_setCell_other _ _ _ _ (fun e => h (by cases e; rfl))]; exact hc
theorem set_same {w : World} {B o : Nat} {x : Value} (h : w.cell? ⟨B, o, none⟩ = some (heldAt w ⟨B, o, none⟩)) : (w.setCell ⟨B, o, none⟩ x).cell? ⟨B, o, none⟩ = some x :=
  World.cell?_setCell_same' _ _ _ (by rw [h]; rfl)
theorem set_held {w : World} {p : Addr} {a : Addr} {x : Value} (h : w.cell? a = some (heldAt w a)) : (w.setCell p x).cell? a = some (heldAt (w.setCell p x) a) := by
  obtain ⟨v1, h1⟩ := cell?_setCell_some (p := p) (x := x) h
  exact held_of h1
theorem set_frozen {w : World} {p a : Addr} {x : Value} (h : w.frozen? a = false) : (w.setCell p x).frozen? a = false := by
  rw [World.frozen?_setCell]; exact h
theorem set1_below {n B o : Nat} {w W : World} {x : Value} (h : Below n w W) (hB : n ≤ B) : Below n w (W.setCell ⟨B, o, none⟩ x) := h.setCell hB _
theorem set_below {n : Nat} {w W : World} {p : Addr} {x : Value} (h : Below n w W) (hB : n ≤ p.block) : Below n w (W.setCell p x) := h.setCell hB _
theorem alloc_cell {w : World} {a : Addr} {v : Value} {o : Obj} (h : w.cell? a = some v) : (w.alloc o).cell? a = some v := cell_later ((Below.refl _ _).alloc (Nat.le_refl _) o) h
theorem alloc_below {w W : World} {o : Obj} (h : Below w.heap.size w W) : Below w.heap.size w (W.alloc o) := h.alloc h.size o
theorem alloc_frozen {w : World} {a : Addr} {v : Value} {o : Obj} (h : w.cell? a = some v) (hf : w.frozen? a = false) : (w.alloc o).frozen? a = false := frozen_later ((Below.refl _ _).alloc (Nat.le_refl _) o) h hf
/-- Two cells, three cells stored one behind the other. -/
abbrev put2 (w : World) (B : Nat) (x y : Value) : World := (w.setCell ⟨B, 0, none⟩ x).setCell ⟨B, 1, none⟩ y
abbrev put3 (w : World) (B : Nat) (x y z : Value) : World := ((w.setCell ⟨B, 0, none⟩ x).setCell ⟨B, 1, none⟩ y).setCell ⟨B, 2, none⟩ z
theorem set_back {w : World} {p : Addr} {x v : Value} (h : (w.setCell p x).cell? p = some v) : (w.setCell p x).cell? p = some x := by
  cases hc : w.cell? p with
  | some u => exact World.cell?_setCell_same w p x hc
  | none =>
    exfalso
    simp only [World.setCell, World.cell?, Array.getElem?_modify, if_true] at h hc
    cases hb : w.heap[p.block]? with
    | none => rw [hb] at h; simp at h
    | some o =>
      rw [hb] at h hc
      cases o <;> simp at h hc
      have hc' := hc h.1
      have := h.2
      rw [if_neg (by rw [h.1]; decide), Array.getElem?_eq_none (by rw [Array.size_setIfInBounds]; exact hc')] at this
      cases this
theorem put2_at {w : World} {B : Nat} {x y v0 v1 : Value} (h0 : (put2 w B x y).cell? ⟨B, 0, none⟩ = some v0) (h1 : (put2 w B x y).cell? ⟨B, 1, none⟩ = some v1) :
    (put2 w B x y).cell? ⟨B, 0, none⟩ = some x ∧ (put2 w B x y).cell? ⟨B, 1, none⟩ = some y := by
  refine ⟨?_, set_back h1⟩
  have e : (put2 w B x y).cell? ⟨B, 0, none⟩ = (w.setCell ⟨B, 0, none⟩ x).cell? ⟨B, 0, none⟩ := World.cell?_setCell_other _ _ _ _ (by simp)
  rw [e] at h0 ⊢
  exact set_back h0
theorem put3_at {w : World} {B : Nat} {x y z v0 v1 v2 : Value} (h0 : (put3 w B x y z).cell? ⟨B, 0, none⟩ = some v0) (h1 : (put3 w B x y z).cell? ⟨B, 1, none⟩ = some v1) (h2 : (put3 w B x y z).cell? ⟨B, 2, none⟩ = some v2) :
    (put3 w B x y z).cell? ⟨B, 0, none⟩ = some x ∧ (put3 w B x y z).cell? ⟨B, 1, none⟩ = some y ∧ (put3 w B x y z).cell? ⟨B, 2, none⟩ = some z := by
  have e0 : (put3 w B x y z).cell? ⟨B, 0, none⟩ = (put2 w B x y).cell? ⟨B, 0, none⟩ := World.cell?_setCell_other _ _ _ _ (by simp)
  have e1 : (put3 w B x y z).cell? ⟨B, 1, none⟩ = (put2 w B x y).cell? ⟨B, 1, none⟩ := World.cell?_setCell_other _ _ _ _ (by simp)
  rw [e0] at h0 ⊢
  rw [e1] at h1 ⊢
  obtain ⟨a, b⟩ := put2_at h0 h1
  exact ⟨a, b, set_back h2⟩
theorem put2_of {w : World} {B : Nat} {x y v0 v1 : Value} (h0 : w.cell? ⟨B, 0, none⟩ = some v0) (h1 : w.cell? ⟨B, 1, none⟩ = some v1) :
    (put2 w B x y).cell? ⟨B, 0, none⟩ = some x ∧ (put2 w B x y).cell? ⟨B, 1, none⟩ = some y :=
  put2_at (set_held (set_held (held_of h0))) (set_held (set_held (held_of h1)))
theorem put3_of {w : World} {B : Nat} {x y z v0 v1 v2 : Value} (h0 : w.cell? ⟨B, 0, none⟩ = some v0) (h1 : w.cell? ⟨B, 1, none⟩ = some v1) (h2 : w.cell? ⟨B, 2, none⟩ = some v2) :
    (put3 w B x y z).cell? ⟨B, 0, none⟩ = some x ∧ (put3 w B x y z).cell? ⟨B, 1, none⟩ = some y ∧ (put3 w B x y z).cell? ⟨B, 2, none⟩ = some z :=
  put3_at (set_held (set_held (set_held (held_of h0)))) (set_held (set_held (set_held (held_of h1)))) (set_held (set_held (set_held (held_of h2))))
theorem put2_below {n B : Nat} {w W : World} {x y : Value} (h : Below n w W) (hB : n ≤ B) : Below n w (put2 W B x y) := (h.setCell hB _).setCell hB _
theorem put3_below {n B : Nat} {w W : World} {x y z : Value} (h : Below n w W) (hB : n ≤ B) : Below n w (put3 W B x y z) := ((h.setCell hB _).setCell hB _).setCell hB _
abbrev put4 (w : World) (B : Nat) (x y z u : Value) : World := (((w.setCell ⟨B, 0, none⟩ x).setCell ⟨B, 1, none⟩ y).setCell ⟨B, 2, none⟩ z).setCell ⟨B, 3, none⟩ u
theorem put4_of {w : World} {B : Nat} {x y z u v0 v1 v2 v3 : Value} (h0 : w.cell? ⟨B, 0, none⟩ = some v0) (h1 : w.cell? ⟨B, 1, none⟩ = some v1) (h2 : w.cell? ⟨B, 2, none⟩ = some v2) (h3 : w.cell? ⟨B, 3, none⟩ = some v3) :
    (put4 w B x y z u).cell? ⟨B, 0, none⟩ = some x ∧ (put4 w B x y z u).cell? ⟨B, 1, none⟩ = some y ∧ (put4 w B x y z u).cell? ⟨B, 2, none⟩ = some z ∧ (put4 w B x y z u).cell? ⟨B, 3, none⟩ = some u := by
  obtain ⟨a, b, c⟩ := put3_of (x := x) (y := y) (z := z) h0 h1 h2
  exact ⟨set_beside (by decide) a, set_beside (by decide) b, set_beside (by decide) c, set_same (set_held (set_held (set_held (held_of h3))))⟩
theorem put4_below {n B : Nat} {w W : World} {x y z u : Value} (h : Below n w W) (hB : n ≤ B) : Below n w (put4 W B x y z u) := (put3_below h hB).setCell hB _

/-- A pitch, an interval, a value, a ratio, as values of Go's. -/
abbrev pt (s a o : Int) : Value := .agg #[.int .i64 s, .int .i64 a, .int .i64 o]
abbrev iv (x y : Int) : Value := .agg #[.int .i64 x, .int .i64 y]
abbrev pv (s a o e : Int) : Value := .tuple #[pt s a o, .int .i64 e]
abbrev vl (b d n e : Int) : Value := .agg #[.int .i64 b, .int .i64 d, .int .i64 n, .int .i64 e]
/-- What the program's and the library's variables hold, as far as they are read. -/
structure Ready (w : World) : Prop where
  half : ∀ j : Nat, j < 7 → w.cell? ⟨5, j, none⟩ = some (.int .i64 (Pit.hv j))
  base : ∀ j : Nat, j < 7 → w.cell? ⟨3, j, none⟩ = some (.int .i64 (Val.ba j))
  dot : ∀ j : Nat, j < 3 → w.cell? ⟨4, j, none⟩ = some (.int .i64 (Val.dt j))
  first : ∀ c, c < 256 → w.cell? ⟨1, c, none⟩ = some (.int .u8 (Lib.firstT c))
  accept : ∀ i, i < 16 → w.cell? ⟨2, 2 * i, none⟩ = some (.int .u8 (Lib.accLo i)) ∧ w.cell? ⟨2, 2 * i + 1, none⟩ = some (.int .u8 (Lib.accHi i))
theorem Ready.below {w w' : World} (h : Ready w) (hb : Below w.heap.size w w') : Ready w' :=
  ⟨fun j hj => cell_later hb (h.half j hj), fun j hj => cell_later hb (h.base j hj), fun j hj => cell_later hb (h.dot j hj), fun j hj => cell_later hb (h.first j hj), fun j hj => ⟨cell_later hb (h.accept j hj).1, cell_later hb (h.accept j hj).2⟩⟩
theorem Ready.alloc {w : World} (h : Ready w) (o : Obj) : Ready (w.alloc o) := h.below ((Below.refl _ _).alloc (Nat.le_refl _) o)
theorem Ready.halfI {w : World} (h : Ready w) {s : Int} (h0 : 0 ≤ s) (h6 : s ≤ 6) : w.cell? ⟨5, s.toNat, none⟩ = some (.int .i64 (Pit.hv s)) := by
  have := h.half s.toNat (by omega)
  rw [show ((s.toNat : Nat) : Int) = s by omega] at this
  exact this
theorem Ready.baseI {w : World} (h : Ready w) {b : Int} (h0 : 0 ≤ b) (h6 : b ≤ 6) : w.cell? ⟨3, b.toNat, none⟩ = some (.int .i64 (Val.ba b)) := by
  have := h.base b.toNat (by omega)
  rw [show ((b.toNat : Nat) : Int) = b by omega] at this
  exact this
theorem Ready.dotI {w : World} (h : Ready w) {d : Int} (h0 : 0 ≤ d) (h2 : d ≤ 2) : w.cell? ⟨4, d.toNat, none⟩ = some (.int .i64 (Val.dt d)) := by
  have := h.dot d.toNat (by omega)
  rw [show ((d.toNat : Nat) : Int) = d by omega] at this
  exact this
end Go.Proofs.YtobhmiknlbjmkaaDoor
