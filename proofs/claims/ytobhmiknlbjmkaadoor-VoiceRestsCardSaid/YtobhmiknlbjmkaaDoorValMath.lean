/-
  Note values in plain numbers: which are right, how long they are, which is so long, how units are split. No program.
-/
import Derived.Test.YtobhmiknlbjmkaaDoorRatMath
namespace Go.Proofs.YtobhmiknlbjmkaaDoor.Val
open Go.Proofs.YtobhmiknlbjmkaaDoor

def ok (b d n e : Int) : Bool := decide (0 ≤ b ∧ b ≤ 6 ∧ 0 ≤ d ∧ d ≤ 2 ∧ ((n = 0 ∧ e = 0) ∨ (2 ≤ n ∧ n ≤ 15 ∧ 1 ≤ e ∧ e ≤ 15 ∧ n ≠ e)))
theorem ok_iff (b d n e : Int) : ok b d n e = true ↔ (0 ≤ b ∧ b ≤ 6 ∧ 0 ≤ d ∧ d ≤ 2 ∧ ((n = 0 ∧ e = 0) ∨ (2 ≤ n ∧ n ≤ 15 ∧ 1 ≤ e ∧ e ≤ 15 ∧ n ≠ e))) := by unfold ok; rw [decide_eq_true_iff]
theorem ok_false {b d n e : Int} (h : ¬ (0 ≤ b ∧ b ≤ 6 ∧ 0 ≤ d ∧ d ≤ 2 ∧ ((n = 0 ∧ e = 0) ∨ (2 ≤ n ∧ n ≤ 15 ∧ 1 ≤ e ∧ e ≤ 15 ∧ n ≠ e)))) : ok b d n e = false := by unfold ok; rw [decide_eq_false_iff_not]; exact h

/-- Base lengths in sixty-fourths; what dots make of one, in quarters; what a tuplet says, 1 and 1 if there is none. -/
def ba (b : Int) : Int := [64, 32, 16, 8, 4, 2, 1].getD b.toNat 0
def dt (d : Int) : Int := [4, 6, 7].getD d.toNat 0
def tn (n : Int) : Int := if n = 0 then 1 else n
def te (n e : Int) : Int := if n = 0 then 1 else e
theorem ba_cases {b : Int} (h0 : 0 ≤ b) (h6 : b ≤ 6) : (b = 0 ∧ ba b = 64) ∨ (b = 1 ∧ ba b = 32) ∨ (b = 2 ∧ ba b = 16) ∨ (b = 3 ∧ ba b = 8) ∨ (b = 4 ∧ ba b = 4) ∨ (b = 5 ∧ ba b = 2) ∨ (b = 6 ∧ ba b = 1) := by
  obtain rfl | rfl | rfl | rfl | rfl | rfl | rfl : b = 0 ∨ b = 1 ∨ b = 2 ∨ b = 3 ∨ b = 4 ∨ b = 5 ∨ b = 6 := by omega
  all_goals decide
theorem dt_cases {d : Int} (h0 : 0 ≤ d) (h2 : d ≤ 2) : (d = 0 ∧ dt d = 4) ∨ (d = 1 ∧ dt d = 6) ∨ (d = 2 ∧ dt d = 7) := by
  obtain rfl | rfl | rfl : d = 0 ∨ d = 1 ∨ d = 2 := by omega
  all_goals decide
theorem ba_bounds {b : Int} (h0 : 0 ≤ b) (h6 : b ≤ 6) : 1 ≤ ba b ∧ ba b ≤ 64 := by
  have := ba_cases h0 h6; omega
theorem dt_bounds {d : Int} (h0 : 0 ≤ d) (h2 : d ≤ 2) : 4 ≤ dt d ∧ dt d ≤ 7 := by
  have := dt_cases h0 h2; omega
theorem bd_bounds {b d : Int} (h0 : 0 ≤ b) (h6 : b ≤ 6) (k0 : 0 ≤ d) (k2 : d ≤ 2) : 4 ≤ ba b * dt d ∧ ba b * dt d ≤ 448 := by
  have := ba_bounds h0 h6
  rcases dt_cases k0 k2 with ⟨_, e⟩ | ⟨_, e⟩ | ⟨_, e⟩ <;> rw [e] <;> omega
theorem tn_bounds {n : Int} (h : n = 0 ∨ (2 ≤ n ∧ n ≤ 15)) : 1 ≤ tn n ∧ tn n ≤ 15 := by
  unfold tn; split <;> omega
theorem te_bounds {n e : Int} (h : n = 0 ∨ (1 ≤ e ∧ e ≤ 15)) : 1 ≤ te n e ∧ te n e ≤ 15 := by
  unfold te; split <;> omega
/-- A length, above and below, before it is lowered. -/
def lnN (b d n e : Int) : Int := ba b * dt d * te n e
def lnD (n : Int) : Int := 256 * tn n
theorem mul_le15 {x k : Int} (x0 : 4 ≤ x) (x1 : x ≤ 448) (k1 : 1 ≤ k) (k2 : k ≤ 15) : 4 ≤ x * k ∧ x * k ≤ 6720 := by
  have h1 : x * 1 ≤ x * k := Int.mul_le_mul_of_nonneg_left k1 (by omega)
  have h2 : x * k ≤ x * 15 := Int.mul_le_mul_of_nonneg_left k2 (by omega)
  omega
theorem ln_bounds {b d n e : Int} (h : ok b d n e = true) : 4 ≤ lnN b d n e ∧ lnN b d n e ≤ 6720 ∧ 256 ≤ lnD n ∧ lnD n ≤ 3840 := by
  obtain ⟨b0, b6, d0, d2, hk⟩ := (ok_iff _ _ _ _).1 h
  obtain ⟨x0, x1⟩ := bd_bounds b0 b6 d0 d2
  obtain ⟨t0, t1⟩ := tn_bounds (n := n) (by omega)
  obtain ⟨u0, u1⟩ := te_bounds (n := n) (e := e) (by omega)
  obtain ⟨y0, y1⟩ := mul_le15 x0 x1 u0 u1
  unfold lnN lnD
  omega
def lenN (b d n e : Int) : Int := if ok b d n e then Rat.ofN (lnN b d n e) (lnD n) else 0
def lenD (b d n e : Int) : Int := if ok b d n e then Rat.ofD (lnN b d n e) (lnD n) else 0
def lenE (b d n e : Int) : Int := if ok b d n e then 0 else 40

/-! ### So many by so many, lowered -/
theorem of_small {n d : Int} (n0 : 0 ≤ n) (n1 : n ≤ 1000000000) (d0 : 1 ≤ d) (d1 : d ≤ 1000000000) : Rat.ofE n d = 0 := by
  have hb : Rat.big n d = false := by
    unfold Rat.big Rat.top Rat.bot
    have h1 := Nat.div_le_self n.natAbs (Nat.gcd n.natAbs d.natAbs)
    have h2 := Nat.div_le_self d.natAbs (Nat.gcd n.natAbs d.natAbs)
    have hM := Rat.M_eq
    rw [decide_eq_false (by omega), decide_eq_false (by omega)]
    rfl
  unfold Rat.ofE
  rw [if_neg (by omega), hb]
  rfl
theorem len_ok {b d n e : Int} (h : ok b d n e = true) : Rat.ofE (lnN b d n e) (lnD n) = 0 := by
  obtain ⟨h1, h2, h3, h4⟩ := ln_bounds h
  exact of_small (by omega) (by omega) (by omega) (by omega)
/-- Of small numbers: the lowered terms are right, and the same. -/
structure Small (n d : Int) : Prop where
  n0 : 0 ≤ n
  n1 : n ≤ 1000000000
  d0 : 1 ≤ d
  d1 : d ≤ 1000000000
theorem Small.right {n d : Int} (h : Small n d) : Rat.IsRight (Rat.ofN n d) (Rat.ofD n d) := (Rat.of_sound (of_small h.n0 h.n1 h.d0 h.d1)).1
theorem Small.eqn {n d : Int} (h : Small n d) : Rat.ofN n d * d = n * Rat.ofD n d := (Rat.of_sound (of_small h.n0 h.n1 h.d0 h.d1)).2.1
theorem Small.err {n d : Int} (h : Small n d) : Rat.ofE n d = 0 := of_small h.n0 h.n1 h.d0 h.d1
theorem Small.le {n d : Int} (h : Small n d) : 0 ≤ Rat.ofN n d ∧ Rat.ofN n d ≤ 1000000000 ∧ 1 ≤ Rat.ofD n d ∧ Rat.ofD n d ≤ 1000000000 := by
  have r := h.right
  have e := h.eqn
  have hM := Rat.M_eq
  refine ⟨?_, by have := r.nM; omega, r.d1, by have := r.dM; omega⟩
  have : 0 ≤ n * Rat.ofD n d := Int.mul_nonneg h.n0 (by have := r.d1; omega)
  by_cases hneg : 0 ≤ Rat.ofN n d
  · exact hneg
  · exfalso
    have : Rat.ofN n d * d < 0 := Int.mul_neg_of_neg_of_pos (by omega) (by have := h.d0; omega)
    omega
/-- Two of them are the same just if they are so crosswise. -/
theorem same_of {n d m c : Int} (h : Small n d) (k : Small m c) (e : n * c = m * d) : Rat.ofN n d = Rat.ofN m c ∧ Rat.ofD n d = Rat.ofD m c := by
  have h1 := h.eqn
  have hd := h.d0
  have hc := k.d0
  have x : Rat.ofN n d * c = m * Rat.ofD n d := by
    have : Rat.ofN n d * c * d = m * Rat.ofD n d * d := by grind
    exact Int.eq_of_mul_eq_mul_right (by omega) this
  obtain ⟨_, a, b⟩ := Rat.of_complete (n := m) (d := c) (by omega) h.right x
  exact ⟨a.symm, b.symm⟩
theorem cross_of {n d m c : Int} (h : Small n d) (k : Small m c) (e1 : Rat.ofN n d = Rat.ofN m c) (e2 : Rat.ofD n d = Rat.ofD m c) : n * c = m * d := by
  have h1 := h.eqn
  have h2 := k.eqn
  have r := h.right.d1
  rw [← e1, ← e2] at h2
  have : n * c * Rat.ofD n d = m * d * Rat.ofD n d := by grind
  exact Int.eq_of_mul_eq_mul_right (by omega) this

/-! ### A search in order -/
/-- The first n values of f. -/
def upto {α : Type} (f : Nat → α) (n : Nat) : List α := (List.range n).map f
theorem upto_succ {α : Type} (f : Nat → α) (k : Nat) : upto f (k + 1) = upto f k ++ [f k] := by simp [upto, List.range_succ]
theorem upto_length {α : Type} (f : Nat → α) (k : Nat) : (upto f k).length = k := by simp [upto]
/-- The first number below n of which q holds; n, if there is none. -/
def fst (q : Nat → Bool) (n : Nat) : Nat := ((List.range n).find? q).getD n
theorem fst_found {q : Nat → Bool} {k n : Nat} (hk : k < n) (h : ∀ j, j < k → q j = false) (hq : q k = true) : fst q n = k := by
  unfold fst
  have : (List.range n).find? q = some k := by
    rw [List.find?_range_eq_some]
    exact ⟨hq, by simpa using hk, fun j hj => by simp [h j hj]⟩
  rw [this]; rfl
theorem fst_none {q : Nat → Bool} {n : Nat} (h : ∀ j, j < n → q j = false) : fst q n = n := by
  unfold fst
  have : (List.range n).find? q = none := by
    rw [List.find?_eq_none]
    intro x hx
    rw [h x (List.mem_range.1 hx)]
    decide
  rw [this]; rfl
theorem fst_spec (q : Nat → Bool) (n : Nat) : (fst q n = n ∧ ∀ j, j < n → q j = false) ∨ (fst q n < n ∧ q (fst q n) = true ∧ ∀ j, j < fst q n → q j = false) := by
  unfold fst
  cases h : (List.range n).find? q with
  | none =>
    left
    refine ⟨rfl, fun j hj => ?_⟩
    have := List.find?_eq_none.1 h j (List.mem_range.2 hj)
    simpa using this
  | some k =>
    right
    obtain ⟨h1, h2, h3⟩ := List.find?_range_eq_some.1 h
    exact ⟨by simpa using h2, h1, fun j hj => by simpa using h3 j hj⟩

/-! ### Find -/
/-- The kinds, and the values of all kinds in the order in which they are tried: kind by kind, base by base, dots by dots. -/
def kN (i : Nat) : Int := [0, 3, 5, 7].getD i 0
def kE (i : Nat) : Int := [0, 2, 4, 4].getD i 0
def cB (k : Nat) : Int := ((k % 21 / 3 : Nat) : Int)
def cT (k : Nat) : Int := ((k % 3 : Nat) : Int)
def isLen (x y : Int) (k : Nat) : Bool := lenN (cB k) (cT k) (kN (k / 21)) (kE (k / 21)) == x && lenD (cB k) (cT k) (kN (k / 21)) (kE (k / 21)) == y
def fnd (x y : Int) : Nat := fst (isLen x y) 84
theorem c_at {i b d : Nat} (hb : b < 7) (hd : d < 3) : cB (21 * i + 3 * b + d) = (b : Int) ∧ cT (21 * i + 3 * b + d) = (d : Int) ∧ (21 * i + 3 * b + d) / 21 = i := by
  unfold cB cT; omega
theorem k_ok {i : Nat} (hi : i < 4) {b d : Int} (b0 : 0 ≤ b) (b6 : b ≤ 6) (d0 : 0 ≤ d) (d2 : d ≤ 2) : ok b d (kN i) (kE i) = true := by
  rw [ok_iff]
  refine ⟨b0, b6, d0, d2, ?_⟩
  have key : ∀ i : Fin 4, (kN i.val = 0 ∧ kE i.val = 0) ∨ (2 ≤ kN i.val ∧ kN i.val ≤ 15 ∧ 1 ≤ kE i.val ∧ kE i.val ≤ 15 ∧ kN i.val ≠ kE i.val) := by decide
  exact key ⟨i, hi⟩

/-! ### The longest that there is room for -/
def fB (k : Nat) : Int := ((k / 3 : Nat) : Int)
def fT (k : Nat) : Int := 2 - ((k % 3 : Nat) : Int)
def fU (k : Nat) : Int := ba (fB k) * dt (fT k)
def fits (m : Int) (k : Nat) : Bool := decide (fU k % 4 = 0) && decide (fU k / 4 ≤ m)
def fitK (m : Int) : Nat := fst (fits m) 21
/-- Its base, its dots, its units. -/
def gB (m : Int) : Int := fB (fitK m)
def gT (m : Int) : Int := fT (fitK m)
def gU (m : Int) : Int := fU (fitK m) / 4
theorem fits_all : ∀ k : Fin 112, decide (fitK ((k.val : Int) + 1) < 21 ∧ 1 ≤ gU ((k.val : Int) + 1) ∧ gU ((k.val : Int) + 1) ≤ (k.val : Int) + 1 ∧ fU (fitK ((k.val : Int) + 1)) % 4 = 0) = true := by decide +kernel
theorem fits_first {m : Int} (h : 112 ≤ m) : fitK m = 0 := by
  refine fst_found (by omega) (fun j hj => by omega) ?_
  unfold fits
  rw [show fU 0 = 448 from rfl]
  simp only [Bool.and_eq_true, decide_eq_true_eq]
  omega
theorem fitK_lt {m : Int} (h : 1 ≤ m) : fitK m < 21 ∧ 1 ≤ gU m ∧ gU m ≤ m ∧ fU (fitK m) % 4 = 0 := by
  by_cases hb : 112 ≤ m
  · unfold gU; rw [fits_first hb, show fU 0 = 448 from rfl]; omega
  · have := of_decide_eq_true (fits_all ⟨(m - 1).toNat, by omega⟩)
    simp only [show (((m - 1).toNat : Nat) : Int) + 1 = m by omega] at this
    exact this
theorem gB_bounds {m : Int} (h : 1 ≤ m) : 0 ≤ gB m ∧ gB m ≤ 6 ∧ 0 ≤ gT m ∧ gT m ≤ 2 := by
  have := (fitK_lt h).1
  unfold gB gT fB fT; omega
theorem gU_eq {m : Int} (h : 1 ≤ m) : ba (gB m) * dt (gT m) = 4 * gU m := by
  have := (fitK_lt h).2.2.2
  unfold gU gB gT
  unfold fU at *
  omega
/-- Nothing that fits is longer. -/
theorem gU_max_all : ∀ k : Fin 112, ∀ j : Fin 21, (fits ((k.val : Int) + 1) j.val && decide (gU ((k.val : Int) + 1) < fU j.val / 4)) = false := by decide +kernel
theorem fU_le : ∀ j : Fin 21, fU j.val ≤ 448 := by decide
theorem gU_max {m : Int} (h : 1 ≤ m) {j : Nat} (hj : j < 21) (hw : fU j % 4 = 0) (hm : fU j / 4 ≤ m) : fU j / 4 ≤ gU m := by
  by_cases hb : 112 ≤ m
  · unfold gU; rw [fits_first hb, show fU 0 = 448 from rfl]
    have := fU_le ⟨j, hj⟩
    simp only at this
    omega
  · have := gU_max_all ⟨(m - 1).toNat, by omega⟩ ⟨j, hj⟩
    simp only [show (((m - 1).toNat : Nat) : Int) + 1 = m by omega] at this
    by_cases hlt : gU m < fU j / 4
    · rw [show fits m j = true by unfold fits; rw [decide_eq_true hw, decide_eq_true hm]; rfl, decide_eq_true hlt] at this
      cases this
    · omega
theorem gU_mono {m m' : Int} (h : 1 ≤ m) (h' : m ≤ m') : gU m ≤ gU m' := by
  obtain ⟨h1, h2, h3, h4⟩ := fitK_lt h
  exact gU_max (by omega) h1 h4 (by unfold gU at h3; omega)

/-! ### What is left behind j parts -/
def rm (u : Int) : Nat → Int
  | 0 => u
  | j + 1 => rm u j - gU (rm u j)
/-- All of them, and no earlier one was the last. -/
def Fills (u : Int) (n : Nat) : Prop := rm u n = 0 ∧ ∀ j, j < n → 1 ≤ rm u j
theorem Fills.unique {u : Int} {n m : Nat} (h : Fills u n) (k : Fills u m) : n = m := by
  rcases Nat.lt_trichotomy n m with l | l | l
  · have := k.2 n l; have := h.1; omega
  · exact l
  · have := h.2 m l; have := k.1; omega
theorem rm_nonneg {u : Int} (h : 0 ≤ u) {n : Nat} (k : ∀ j, j < n → 1 ≤ rm u j) : 0 ≤ rm u n ∧ rm u n + (n : Int) ≤ u := by
  induction n with
  | zero => simp only [rm]; omega
  | succ n ih =>
    have h1 := k n (by omega)
    obtain ⟨_, a, b, _⟩ := fitK_lt h1
    have := ih (fun j hj => k j (by omega))
    simp only [rm]
    omega
theorem rm_shift (u : Int) (n : Nat) : rm u (n + 1) = rm (rm u 1) n := by
  induction n with
  | zero => rfl
  | succ n ih => rw [rm, ih]; rfl
theorem Fills.tail {u : Int} {n : Nat} (h : Fills u (n + 1)) : Fills (rm u 1) n :=
  ⟨by rw [← rm_shift]; exact h.1, fun j hj => by rw [← rm_shift]; exact h.2 (j + 1) (by omega)⟩

/-! ### Units -/
/-- How many units a whole note has, by kinds. -/
def mI (i : Nat) : Int := [64, 96, 80, 112].getD i 64
def unI (x y : Int) (i : Nat) : Bool := decide ((x * mI i) % y = 0)
def kI (x y : Int) : Nat := fst (unI x y) 4
def uI (x y : Int) (i : Nat) : Int := x * mI i / y
/-- May it be split? -/
def may (x y : Int) : Bool := Rat.right x y && (decide (0 < x) && decide (x ≤ 64 * y))
theorem mI_cases {i : Nat} (h : i < 4) : (i = 0 ∧ mI i = 64 ∧ kN i = 0 ∧ kE i = 0) ∨ (i = 1 ∧ mI i = 96 ∧ kN i = 3 ∧ kE i = 2) ∨ (i = 2 ∧ mI i = 80 ∧ kN i = 5 ∧ kE i = 4) ∨ (i = 3 ∧ mI i = 112 ∧ kN i = 7 ∧ kE i = 4) := by
  obtain rfl | rfl | rfl | rfl : i = 0 ∨ i = 1 ∨ i = 2 ∨ i = 3 := by omega
  all_goals decide
/-- A value of a kind is so many units long. -/
theorem len_units {i : Nat} (hi : i < 4) {b d u : Int} (b0 : 0 ≤ b) (b6 : b ≤ 6) (d0 : 0 ≤ d) (d2 : d ≤ 2) (hu : ba b * dt d = 4 * u) : lenN b d (kN i) (kE i) = Rat.ofN u (mI i) ∧ lenD b d (kN i) (kE i) = Rat.ofD u (mI i) := by
  have hk := k_ok hi b0 b6 d0 d2
  have hl := ln_bounds hk
  have hb := bd_bounds b0 b6 d0 d2
  unfold lenN lenD
  rw [hk, if_pos rfl, if_pos rfl]
  have hm : Small u (mI i) := by rcases mI_cases hi with ⟨_, e, _⟩ | ⟨_, e, _⟩ | ⟨_, e, _⟩ | ⟨_, e, _⟩ <;> rw [e] <;> exact ⟨by omega, by omega, by omega, by omega⟩
  refine same_of ⟨by omega, by omega, by omega, by omega⟩ hm ?_
  unfold lnN lnD
  rw [hu]
  rcases mI_cases hi with ⟨_, e, e1, e2⟩ | ⟨_, e, e1, e2⟩ | ⟨_, e, e1, e2⟩ | ⟨_, e, e1, e2⟩ <;> rw [e, e1, e2] <;> simp only [tn, te] <;> simp <;> omega
end Go.Proofs.YtobhmiknlbjmkaaDoor.Val
