/-
  What the walks of layer 5 share; the contracts of package meter's small functions, of Right and of Length.
-/
import Derived.Test.YtlodhfdikglgoaaMetMath
import Derived.Test.YtlodhfdikglgoaaRatR1
import Derived.OwnWalk
import Derived.LoopN
namespace Go.Proofs.Ytlodhfdikglgoaa
open Go.RowKit
theorem cell_drew {w : World} {a : Addr} {v : Value} (h : w.cell? a = some v) : w.drew.cell? a = some v := h
theorem held_drew {w : World} {a : Addr} (h : w.cell? a = some (heldAt w a)) : w.drew.cell? a = some (heldAt w.drew a) := h
theorem frozen_drew {w : World} {a : Addr} (h : w.frozen? a = false) : w.drew.frozen? a = false := h
theorem set_far {w : World} {B o b o' : Nat} {x v : Value} (h : b ≠ B) (hc : w.cell? ⟨b, o', none⟩ = some v) : (w.setCell ⟨B, o, none⟩ x).cell? ⟨b, o', none⟩ = some v := by
  rw [World.cell?_setCell_far _ _ _ _ (Ne.symm h)]; exact hc
theorem set_beside {w : World} {B o o' : Nat} {x v : Value} (h : o ≠ o') (hc : w.cell? ⟨B, o', none⟩ = some v) : (w.setCell ⟨B, o, none⟩ x).cell? ⟨B, o', none⟩ = some v := by
  rw [World.cell?_setCell_other _ _ _ _ (fun e => h (by cases e; rfl))]; exact hc
theorem set_same {w : World} {B o : Nat} {x : Value} (h : w.cell? ⟨B, o, none⟩ = some (heldAt w ⟨B, o, none⟩)) : (w.setCell ⟨B, o, none⟩ x).cell? ⟨B, o, none⟩ = some x :=
  World.cell?_setCell_same' _ _ _ (by rw [h]; rfl)
theorem set_held {w : World} {p : Addr} {a : Addr} {x : Value} (h : w.cell? a = some (heldAt w a)) : (w.setCell p x).cell? a = some (heldAt (w.setCell p x) a) := by
  obtain ⟨v1, h1⟩ := cell?_setCell_some (p := p) (x := x) h
  exact held_of h1
theorem set_frozen {w : World} {p a : Addr} {x : Value} (h : w.frozen? a = false) : (w.setCell p x).frozen? a = false := by
  rw [World.frozen?_setCell]; exact h
theorem set1_below {n B o : Nat} {w W : World} {x : Value} (h : Below n w W) (hB : n ≤ B) : Below n w (W.setCell ⟨B, o, none⟩ x) := h.setCell hB _
theorem set_below {n : Nat} {w W : World} {p : Addr} {x : Value} (h : Below n w W) (hB : n ≤ p.block) : Below n w (W.setCell p x) := h.setCell hB _
theorem alloc_cell {w : World} {a : Addr} {v : Value} {o : Obj} (h : w.cell? a = some v) : (w.alloc o).cell? a = some v := cell_later ((Below.refl _ _).alloc (Nat.le_refl _) o) h
theorem alloc_below {w W : World} {o : Obj} (h : Below w.heap.size w W) : Below w.heap.size w (W.alloc o) := h.alloc h.size o
theorem alloc_frozen {w : World} {a : Addr} {v : Value} {o : Obj} (h : w.cell? a = some v) (hf : w.frozen? a = false) : (w.alloc o).frozen? a = false := frozen_later ((Below.refl _ _).alloc (Nat.le_refl _) o) h hf
/-- Two cells, three cells stored one behind the other. -/
abbrev put2 (w : World) (B : Nat) (x y : Value) : World := (w.setCell ⟨B, 0, none⟩ x).setCell ⟨B, 1, none⟩ y
abbrev put3 (w : World) (B : Nat) (x y z : Value) : World := ((w.setCell ⟨B, 0, none⟩ x).setCell ⟨B, 1, none⟩ y).setCell ⟨B, 2, none⟩ z
theorem set_back {w : World} {p : Addr} {x v : Value} (h : (w.setCell p x).cell? p = some v) : (w.setCell p x).cell? p = some x := by
  cases hc : w.cell? p with
  | some u => exact World.cell?_setCell_same w p x hc
  | none =>
    exfalso
    simp only [World.setCell, World.cell?, Array.getElem?_modify, if_true] at h hc
    cases hb : w.heap[p.block]? with
    | none => rw [hb] at h; simp at h
    | some o =>
      rw [hb] at h hc
      cases o <;> simp at h hc
      have hc' := hc h.1
      have := h.2
      rw [if_neg (by rw [h.1]; decide), Array.getElem?_eq_none (by rw [Array.size_setIfInBounds]; exact hc')] at this
      cases this
theorem put2_at {w : World} {B : Nat} {x y v0 v1 : Value} (h0 : (put2 w B x y).cell? ⟨B, 0, none⟩ = some v0) (h1 : (put2 w B x y).cell? ⟨B, 1, none⟩ = some v1) :
    (put2 w B x y).cell? ⟨B, 0, none⟩ = some x ∧ (put2 w B x y).cell? ⟨B, 1, none⟩ = some y := by
  refine ⟨?_, set_back h1⟩
  have e : (put2 w B x y).cell? ⟨B, 0, none⟩ = (w.setCell ⟨B, 0, none⟩ x).cell? ⟨B, 0, none⟩ := World.cell?_setCell_other _ _ _ _ (by simp)
  rw [e] at h0 ⊢
  exact set_back h0
theorem put3_at {w : World} {B : Nat} {x y z v0 v1 v2 : Value} (h0 : (put3 w B x y z).cell? ⟨B, 0, none⟩ = some v0) (h1 : (put3 w B x y z).cell? ⟨B, 1, none⟩ = some v1) (h2 : (put3 w B x y z).cell? ⟨B, 2, none⟩ = some v2) :
    (put3 w B x y z).cell? ⟨B, 0, none⟩ = some x ∧ (put3 w B x y z).cell? ⟨B, 1, none⟩ = some y ∧ (put3 w B x y z).cell? ⟨B, 2, none⟩ = some z := by
  have e0 : (put3 w B x y z).cell? ⟨B, 0, none⟩ = (put2 w B x y).cell? ⟨B, 0, none⟩ := World.cell?_setCell_other _ _ _ _ (by simp)
  have e1 : (put3 w B x y z).cell? ⟨B, 1, none⟩ = (put2 w B x y).cell? ⟨B, 1, none⟩ := World.cell?_setCell_other _ _ _ _ (by simp)
  rw [e0] at h0 ⊢
  rw [e1] at h1 ⊢
  obtain ⟨a, b⟩ := put2_at h0 h1
  exact ⟨a, b, set_back h2⟩
theorem put2_of {w : World} {B : Nat} {x y v0 v1 : Value} (h0 : w.cell? ⟨B, 0, none⟩ = some v0) (h1 : w.cell? ⟨B, 1, none⟩ = some v1) :
    (put2 w B x y).cell? ⟨B, 0, none⟩ = some x ∧ (put2 w B x y).cell? ⟨B, 1, none⟩ = some y :=
  put2_at (set_held (set_held (held_of h0))) (set_held (set_held (held_of h1)))
theorem put3_of {w : World} {B : Nat} {x y z v0 v1 v2 : Value} (h0 : w.cell? ⟨B, 0, none⟩ = some v0) (h1 : w.cell? ⟨B, 1, none⟩ = some v1) (h2 : w.cell? ⟨B, 2, none⟩ = some v2) :
    (put3 w B x y z).cell? ⟨B, 0, none⟩ = some x ∧ (put3 w B x y z).cell? ⟨B, 1, none⟩ = some y ∧ (put3 w B x y z).cell? ⟨B, 2, none⟩ = some z :=
  put3_at (set_held (set_held (set_held (held_of h0)))) (set_held (set_held (set_held (held_of h1)))) (set_held (set_held (set_held (held_of h2))))
theorem put2_below {n B : Nat} {w W : World} {x y : Value} (h : Below n w W) (hB : n ≤ B) : Below n w (put2 W B x y) := (h.setCell hB _).setCell hB _
theorem put3_below {n B : Nat} {w W : World} {x y z : Value} (h : Below n w W) (hB : n ≤ B) : Below n w (put3 W B x y z) := ((h.setCell hB _).setCell hB _).setCell hB _

/-- A meter and a ratio, as values of Go's. -/
abbrev mt (n d : Int) (v : Value) : Value := .agg #[.int .i64 n, .int .i64 d, v]
abbrev rp (p : Met.Pr) : Value := .agg #[.int .i64 p.1, .int .i64 p.2]
abbrev rvp (p : Met.Pr) (e : Int) : Value := .tuple #[.agg #[.int .i64 p.1, .int .i64 p.2], .int .i64 e]

/-- A list of numbers in memory, which a round that keeps what lies below n₀, and rows of numbers, leaves as it is. -/
def IntsK (n₀ : Nat) (W : World) (v : Value) (gs : List Int) : Prop :=
  ∃ p cap, v = .slice p gs.length cap ∧ gs.length ≤ 140737488355328 ∧ ∀ (i : Nat) (x : Int), gs[i]? = some x → ∃ b o, p = some ⟨b, o, none⟩ ∧ W.cell? ⟨b, o + i, none⟩ = some (.int .i64 x) ∧ (b < n₀ ∨ ∃ cur f, W.heap[b]? = some (.cells cur 3 f))
def Ints (W : World) (v : Value) (gs : List Int) : Prop :=
  ∃ p cap, v = .slice p gs.length cap ∧ gs.length ≤ 140737488355328 ∧ ∀ (i : Nat) (x : Int), gs[i]? = some x → ∃ b o, p = some ⟨b, o, none⟩ ∧ W.cell? ⟨b, o + i, none⟩ = some (.int .i64 x)
theorem IntsK.ints {n₀ : Nat} {W : World} {v : Value} {gs : List Int} (h : IntsK n₀ W v gs) : Ints W v gs := by
  obtain ⟨p, cap, rfl, hl, hc⟩ := h
  exact ⟨p, cap, rfl, hl, fun i x hx => let ⟨b, o, e, c, _⟩ := hc i x hx; ⟨b, o, e, c⟩⟩
theorem Ints.fix {W : World} {v : Value} {gs : List Int} (h : Ints W v gs) {n₀ : Nat} (hn : W.heap.size ≤ n₀) : IntsK n₀ W v gs := by
  obtain ⟨p, cap, rfl, hl, hc⟩ := h
  exact ⟨p, cap, rfl, hl, fun i x hx => let ⟨b, o, e, c⟩ := hc i x hx; ⟨b, o, e, c, .inl (Nat.lt_of_lt_of_le (World.block_lt_of_cell? _ _ c) hn)⟩⟩
theorem Ints.later {W W' : World} {v : Value} {gs : List Int} (h : Ints W v gs) (hb : Below W.heap.size W W') : Ints W' v gs := by
  obtain ⟨p, cap, rfl, hl, hc⟩ := h
  exact ⟨p, cap, rfl, hl, fun i x hx => let ⟨b, o, e, c⟩ := hc i x hx; ⟨b, o, e, cell_later hb c⟩⟩
theorem Ints.none (W : World) : Ints W (.slice none 0 0) [] := ⟨_, 0, rfl, by simp, fun i x hx => by simp at hx⟩
/-- What a round keeps. -/
structure KI (n₀ : Nat) (W W' : World) : Prop where
  below : Below n₀ W W'
  typed : ∀ (k : Nat) (cur : Array Value) (t : TypeId) (f : Nat × Nat), t = 3 ∨ t = 24 → W.heap[k]? = some (.cells cur t f) → W'.heap[k]? = some (.cells cur t f)
theorem KI.ints {n₀ : Nat} {W W' : World} (h : KI n₀ W W') : ∀ (k : Nat) (cur : Array Value) (f : Nat × Nat), W.heap[k]? = some (.cells cur 3 f) → W'.heap[k]? = some (.cells cur 3 f) := fun k cur f => h.typed k cur _ f (.inl rfl)
theorem KI.refl (n₀ : Nat) (W : World) : KI n₀ W W := ⟨Below.refl _ _, fun _ _ _ _ _ h => h⟩
theorem KI.trans {n₀ : Nat} {A B C : World} (h : KI n₀ A B) (k : KI n₀ B C) : KI n₀ A C := ⟨h.below.trans k.below, fun i cur t f ht hi => k.typed i cur t f ht (h.typed i cur t f ht hi)⟩
theorem KI.of_below {n₀ : Nat} {A B : World} (h : Below A.heap.size A B) (hn : n₀ ≤ A.heap.size) : KI n₀ A B :=
  ⟨h.mono hn, fun k _ _ _ _ hk => (h.block k (Array.getElem?_eq_some_iff.1 hk).1).trans hk⟩
theorem IntsK.kept {n₀ : Nat} {W W' : World} {v : Value} {gs : List Int} (h : IntsK n₀ W v gs) (hk : KI n₀ W W') : IntsK n₀ W' v gs := by
  obtain ⟨p, cap, rfl, hl, hc⟩ := h
  refine ⟨p, cap, rfl, hl, fun i x hx => ?_⟩
  obtain ⟨b, o, e, c, hb⟩ := hc i x hx
  refine ⟨b, o, e, ?_, ?_⟩
  · rcases hb with hb | ⟨cur, f, hb⟩
    · exact (hk.below.cell (p := ⟨b, o + i, _⟩) hb).trans c
    · exact (World.cell?_of_block (w := W) ((hk.ints b cur f hb).trans hb.symm)).trans c
  · rcases hb with hb | ⟨cur, f, hb⟩
    · exact .inl hb
    · exact .inr ⟨cur, f, hk.ints b cur f hb⟩
theorem IntsK.later {n₀ : Nat} {W W' : World} {v : Value} {gs : List Int} (h : IntsK n₀ W v gs) (hb : Below W.heap.size W W') : IntsK n₀ W' v gs := by
  obtain ⟨p, cap, rfl, hl, hc⟩ := h
  exact ⟨p, cap, rfl, hl, fun i x hx => let ⟨b, o, e, c, hx⟩ := hc i x hx; ⟨b, o, e, cell_later hb c, hx.imp id (fun ⟨cur, f, hf⟩ => ⟨cur, f, (hb.block b (Array.getElem?_eq_some_iff.1 hf).1).trans hf⟩)⟩⟩

/-- A list of ratios in memory. -/
def Prs (W : World) (v : Value) (l : List Met.Pr) : Prop :=
  ∃ p cap, v = .slice p l.length cap ∧ l.length ≤ 1000000 ∧ ∀ (i : Nat) (x : Met.Pr), l[i]? = some x → ∃ b o, p = some ⟨b, o, none⟩ ∧ W.cell? ⟨b, o + i * 2, none⟩ = some (.int .i64 x.1) ∧ W.cell? ⟨b, o + i * 2 + 1, none⟩ = some (.int .i64 x.2)
theorem Prs.later {W W' : World} {v : Value} {l : List Met.Pr} (h : Prs W v l) (hb : Below W.heap.size W W') : Prs W' v l := by
  obtain ⟨p, cap, rfl, hl, hc⟩ := h
  exact ⟨p, cap, rfl, hl, fun i x hx => let ⟨b, o, e, c, c'⟩ := hc i x hx; ⟨b, o, e, cell_later hb c, cell_later hb c'⟩⟩
theorem Prs.none (W : World) : Prs W (.slice none 0 0) [] := ⟨_, 0, rfl, by simp, fun i x hx => by simp at hx⟩
def rowP (l : List Met.Pr) : List Value := l.flatMap fun p => [.int .i64 p.1, .int .i64 p.2]
theorem rowP_append (l m : List Met.Pr) : rowP (l ++ m) = rowP l ++ rowP m := by unfold rowP; simp
theorem rowP_one (p : Met.Pr) : rowP [p] = [.int .i64 p.1, .int .i64 p.2] := rfl
theorem rowP_at : ∀ (l : List Met.Pr) (i : Nat) (x : Met.Pr), l[i]? = some x → (rowP l)[i * 2]? = some (.int .i64 x.1) ∧ (rowP l)[i * 2 + 1]? = some (.int .i64 x.2)
  | [], i, x, h => by simp at h
  | p :: l, 0, x, h => by simp at h; subst h; exact ⟨rfl, rfl⟩
  | p :: l, i + 1, x, h => by
    have := rowP_at l i x (by simpa using h)
    rw [show p :: l = [p] ++ l from rfl, rowP_append, rowP_one, show (i + 1) * 2 = i * 2 + 1 + 1 by omega]
    exact this
theorem own_later {w w' : World} {base : Nat} {e : TypeId} {size : Nat} {v : Value} {n : Nat} {xs : List Value} (h : w.ownsRow base e size v n xs) (hb : Below w.heap.size w w') : w'.ownsRow base e size v n xs :=
  h.kept (row := .none) ⟨hb.os, hb.tape, hb.output, hb.size, fun k hk _ => hb.block k hk⟩ (by cases hv : v.ownBlock <;> simp)
theorem own_set {w : World} {base B o : Nat} {x : Value} {e : TypeId} {size : Nat} {v : Value} {n : Nat} {xs : List Value} (h : w.ownsRow base e size v n xs) (hB : B < base) : (w.setCell ⟨B, o, .none⟩ x).ownsRow base e size v n xs :=
  h.kept (row := some B) ⟨rfl, rfl, rfl, by simp [World.setCell], fun k _ hk => Below.heap_setCell _ _ _ _ (fun e => hk (by rw [e]))⟩ (.inr (fun e => by have := (h.lt B e).1; omega))
theorem cell_of_cells {W : World} {g j : Nat} {cur : Array Value} {e : TypeId} {v : Value} (h : W.heap[g]? = some (.cells cur e (0, 0))) (hc : cur[j]? = some v) : W.cell? ⟨g, j, none⟩ = some v := by
  unfold World.cell?
  simp [h, hc]
theorem prs_of {W : World} {base : Nat} {e : TypeId} {v : Value} {l : List Met.Pr} (hl : l.length ≤ 1000000) (h : W.ownsRow base e 2 v l.length (rowP l)) : Prs W v l := by
  obtain ⟨hx, ⟨rfl, h0⟩ | ⟨g, cap, cur, rfl, _, hg, hcap, _, hsz, ht⟩⟩ := h
  · exact ⟨.none, 0, by rw [h0], hl, fun i x hx => by rw [List.length_eq_zero_iff.1 h0] at hx; simp at hx⟩
  · refine ⟨_, cap, rfl, hl, fun i x hx => ?_⟩
    have key : ∀ j, j < l.length * 2 → cur[j]? = (rowP l)[j]? := fun j hj => by
      rw [← ht, List.getElem?_take, if_pos hj, Array.getElem?_toList]
    obtain ⟨a, b⟩ := rowP_at l i x hx
    have hi := (List.getElem?_eq_some_iff.1 hx).1
    exact ⟨g, 0, rfl, by rw [Nat.zero_add]; exact cell_of_cells hg ((key _ (by omega)).trans a), by rw [Nat.zero_add]; exact cell_of_cells hg ((key _ (by omega)).trans b)⟩
theorem intsK_of {n₀ : Nat} {W : World} {base : Nat} {v : Value} {l : List Int} (hl : l.length ≤ 140737488355328) (h : W.ownsRow base 3 1 v l.length (l.map (fun x => Value.int .i64 x))) : IntsK n₀ W v l := by
  obtain ⟨hx, ⟨rfl, h0⟩ | ⟨g, cap, cur, rfl, _, hg, hcap, _, hsz, ht⟩⟩ := h
  · exact ⟨.none, 0, by rw [h0], hl, fun i x hx => by rw [List.length_eq_zero_iff.1 h0] at hx; simp at hx⟩
  · refine ⟨_, cap, rfl, hl, fun i x hx => ?_⟩
    have hi := (List.getElem?_eq_some_iff.1 hx).1
    have key : cur[i]? = some (.int .i64 x) := by
      have e : (l.map (fun x => Value.int .i64 x))[i]? = some (.int .i64 x) := by rw [List.getElem?_map, hx]; rfl
      rw [← ht, List.getElem?_take, if_pos (by omega), Array.getElem?_toList] at e
      exact e
    exact ⟨g, 0, rfl, by rw [Nat.zero_add]; exact cell_of_cells hg key, .inr ⟨_, _, hg⟩⟩
theorem infoR : (Try.prog.info? 26).map (fun i => (i.zero, i.size, i.bytes)) = some (some (.agg #[.int .i64 0, .int .i64 0]), 2, 16) := by kernel_rfl
theorem infoI : (Try.prog.info? 3).map (fun i => (i.zero, i.size, i.bytes)) = some (some (.int .i64 0), 1, 8) := by kernel_rfl

theorem mwithin_any (n l m : Int) (w : World) :
    Calls Try.prog 35 #[.int .i64 n, .int .i64 l, .int .i64 m] w fun e w' => e = .returned (.bool (decide (l ≤ n ∧ n ≤ m))) ∧ w = w' := by
  by_cases h1 : l ≤ n
  · by_cases h2 : n ≤ m
    · rw [decide_eq_true (⟨h1, h2⟩ : l ≤ n ∧ n ≤ m)]
      go_enter Try.func35, Try.ntmps35
      go_wp2
      go_ret
      exact ⟨ret_bool (by simp [*]), rfl⟩
    · rw [decide_eq_false (fun h : l ≤ n ∧ n ≤ m => h2 h.2)]
      go_enter Try.func35, Try.ntmps35
      go_wp2
      go_ret
      exact ⟨ret_bool (by simp [*]), rfl⟩
  · rw [decide_eq_false (fun h : l ≤ n ∧ n ≤ m => h1 h.1)]
    go_enter Try.func35, Try.ntmps35
    go_wp2
    go_ret
    exact ⟨ret_bool (by simp [*]), rfl⟩

set_option maxRecDepth 100000 in
set_option maxHeartbeats 4000000 in
theorem written_any (d : Int) (w : World) :
    Calls Try.prog 36 #[.int .i64 d] w fun ed w' => ed = .returned (.bool (Met.okD d)) ∧ w = w' := by
  cases h : Met.okD d
  · have hn : ¬ _ := fun x => Bool.false_ne_true (h.symm.trans ((Met.okD_iff d).2 x))
    have h1 : d ≠ 1 := fun e => hn (by omega)
    have h2 : d ≠ 2 := fun e => hn (by omega)
    have h3 : d ≠ 4 := fun e => hn (by omega)
    have h4 : d ≠ 8 := fun e => hn (by omega)
    have h5 : d ≠ 16 := fun e => hn (by omega)
    have h6 : d ≠ 32 := fun e => hn (by omega)
    have h7 : d ≠ 64 := fun e => hn (by omega)
    clear h hn
    go_enter Try.func36, Try.ntmps36
    go_wp2
    go_ret
    exact ⟨rfl, rfl⟩
  · rcases (Met.okD_iff d).1 h with rfl | rfl | rfl | rfl | rfl | rfl | rfl
    all_goals clear h
    all_goals go_enter Try.func36, Try.ntmps36
    all_goals go_wp2
    all_goals go_ret
    all_goals exact ⟨rfl, rfl⟩

def FilRel (n : Int) (gs : List Int) (a i : Value) : Prop := ∃ k : Nat, k ≤ gs.length ∧ i = .int .i64 (k : Int) ∧ a = .int .i64 (n - Met.ah gs k) ∧ (∀ g ∈ gs.take k, 1 ≤ g) ∧ 0 ≤ n - Met.ah gs k ∧ n - Met.ah gs k ≤ 32

set_option maxRecDepth 100000 in
set_option maxHeartbeats 4000000 in
theorem filled_any (n d : Int) (v : Value) (gs : List Int) (w : World) (hI : Ints w v gs) (n1 : 1 ≤ n) (n32 : n ≤ 32) :
    Calls Try.prog 37 #[mt n d v] w fun ed w' => ed = .returned (.bool (Met.okG n gs)) ∧ Below w.heap.size w w' := by
  obtain ⟨p, cap, rfl, hl, hc⟩ := hI
  have hB0 : Below w.heap.size w w := Below.refl _ _
  go_enter Try.func37, Try.ntmps37
  go_wp2_with fail
  have hs1 : Below w.heap.size w (w.alloc (.cells #[.int .i64 n, .int .i64 d, .slice p gs.length cap] 24)) := by repeat (first | exact Below.refl _ _ | refine Below.alloc ?_ (by simp <;> omega) _)
  have c_m_0 : (w.alloc (.cells #[.int .i64 n, .int .i64 d, .slice p gs.length cap] 24)).cell? ⟨w.heap.size, 0, none⟩ = some (.int .i64 n) := by go_simp
  have c_m_1 : (w.alloc (.cells #[.int .i64 n, .int .i64 d, .slice p gs.length cap] 24)).cell? ⟨w.heap.size, 1, none⟩ = some (.int .i64 d) := by go_simp
  have c_m_2 : (w.alloc (.cells #[.int .i64 n, .int .i64 d, .slice p gs.length cap] 24)).cell? ⟨w.heap.size, 2, none⟩ = some (.slice p gs.length cap) := by go_simp
  have hB1 := below_two hB0 hs1
  clear hB0 hs1
  generalize (w.alloc (.cells #[.int .i64 n, .int .i64 d, .slice p gs.length cap] 24)) = w1 at *
  have z_m := World.block_lt_of_cell? _ _ c_m_0
  have HC : Hid (∀ (i : Nat) (x : Int), gs[i]? = some x → ∃ b o, p = some ⟨b, o, none⟩ ∧ w1.cell? ⟨b, o + i, none⟩ = some (.int .i64 x)) := Lib.hid fun i x hx => let ⟨b, o, e, c⟩ := hc i x hx; ⟨b, o, e, cell_later hB1 c⟩
  clear hc
  go_loop [3, 11] (FilRel n gs) (fun _ i => gs.length - (intOf i).toNat)
  case atStart => exact ⟨0, Nat.zero_le _, rfl, by rw [Met.ah_zero]; simp, by simp, by rw [Met.ah_zero]; omega, by rw [Met.ah_zero]; omega⟩
  case round =>
    obtain ⟨k, hk, rfl, rfl, hp, h0, h32⟩ := hrel
    have HP := Lib.hid hp
    clear hp
    obtain ⟨L, HL⟩ : ∃ L, Hid (n - Met.ah gs k = L) := ⟨_, Lib.hid rfl⟩
    rw [HL.out] at h0 h32 ⊢
    by_cases hlt : k < gs.length
    · obtain ⟨x, hx⟩ : ∃ x, gs[k]? = some x := ⟨_, List.getElem?_eq_getElem hlt⟩
      obtain ⟨b, o, rfl, hcell⟩ := HC.out k x hx
      have HX := Lib.hid hx
      clear hx
      by_cases hok : 1 ≤ x ∧ x ≤ L
      · obtain ⟨hx1, hx2⟩ := hok
        have hw := mwithin_any x 1 L
        rw [decide_eq_true (⟨hx1, hx2⟩ : 1 ≤ x ∧ x ≤ L)] at hw
        have HW := Lib.hid hw
        clear hw
        go_wp2_with (go_at_call 35; refine (HW.out _).mono ?_; rintro e w' ⟨rfl, rfl⟩)
        refine ⟨⟨k + 1, by omega, by go_num, ?_, ?_, ?_, ?_⟩, by simp [intOf]; omega⟩
        · rw [Met.ah_succ HX.out, ← HL.out]; congr 1; omega
        · rw [Met.take_succ_at HX.out]; intro g hg; rcases List.mem_append.1 hg with h | h
          · exact HP.out g h
          · simp at h; omega
        · rw [Met.ah_succ HX.out]; have := HL.out; omega
        · rw [Met.ah_succ HX.out]; have := HL.out; omega
      · have hw := mwithin_any x 1 L
        rw [decide_eq_false hok] at hw
        have HW := Lib.hid hw
        clear hw
        have HE : Hid (Met.okG n gs = false) := Lib.hid (Met.okG_no HX.out (by have := HL.out; omega))
        clear hok
        go_wp2_with (go_at_call 35; refine (HW.out _).mono ?_; rintro e w' ⟨rfl, rfl⟩)
        go_ret
        exact ⟨ret_bool HE.out.symm, hB1⟩
    · obtain rfl : k = gs.length := by omega
      rw [List.take_length] at HP
      have HE : Hid (Met.okG n gs = ((gs.length : Int) == 0 || L == 0)) := Lib.hid (by rw [Met.okG_end HP.out, HL.out])
      clear HC
      by_cases hz : gs.length = 0
      · have hz1 : ((gs.length : Int) == 0) = true := beq_iff_eq.2 (by omega)
        have HE1 : Hid (Met.okG n gs = true) := Lib.hid (by rw [HE.out, hz1]; rfl)
        go_wp2
        go_ret
        exact ⟨ret_bool HE1.out.symm, hB1⟩
      · have hz1 : ((gs.length : Int) == 0) = false := beq_eq_false_iff_ne.2 (by omega)
        have HE1 : Hid (Met.okG n gs = (L == 0)) := Lib.hid (by rw [HE.out, hz1]; rfl)
        go_wp2
        go_ret
        exact ⟨ret_bool HE1.out.symm, hB1⟩
end Go.Proofs.Ytlodhfdikglgoaa
