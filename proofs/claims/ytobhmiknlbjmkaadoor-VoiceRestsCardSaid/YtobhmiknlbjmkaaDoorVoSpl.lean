/-
  Out of layer 4: the contract of value.Split.
-/
import Derived.Test.YtobhmiknlbjmkaaDoorVoE
namespace Go.Proofs.YtobhmiknlbjmkaaDoor.Spl
open Go.RowKit Go.Proofs.YtobhmiknlbjmkaaDoor.Rat

theorem sgn_cases (x : Int) : (x < 0 ∧ sgn x = -1) ∨ (x = 0 ∧ sgn x = 0) ∨ (0 < x ∧ sgn x = 1) := by
  unfold sgn
  by_cases h : x < 0
  · left; rw [if_pos h]; exact ⟨h, rfl⟩
  · by_cases h' : x = 0
    · right; left; rw [if_neg h, if_pos h']; exact ⟨h', rfl⟩
    · right; right; rw [if_neg h, if_neg h']; exact ⟨by omega, rfl⟩

/-- What package value's variables hold, and the library's. -/
structure Vars (w : World) : Prop where
  lib : Ready w
  base : ∀ j : Nat, j < 7 → w.cell? ⟨3, j, none⟩ = some (.int .i64 (Val.ba j))
  dot : ∀ j : Nat, j < 3 → w.cell? ⟨4, j, none⟩ = some (.int .i64 (Val.dt j))
  kind : ∀ j : Nat, j < 16 → w.cell? ⟨0, j, none⟩ = some (.int .i64 ([0, 0, 0, 0, 0, 0, 3, 2, 0, 0, 5, 4, 0, 0, 7, 4].getD j 0))

theorem Vars.below {w w' : World} (h : Vars w) (hb : Below w.heap.size w w') : Vars w' :=
  ⟨h.lib.below hb, fun j hj => cell_later hb (h.base j hj), fun j hj => cell_later hb (h.dot j hj), fun j hj => cell_later hb (h.kind j hj)⟩

theorem Vars.dotI {w : World} (h : Vars w) {d : Int} (h0 : 0 ≤ d) (h2 : d ≤ 2) : w.cell? ⟨4, d.toNat, none⟩ = some (.int .i64 (Val.dt d)) := by
  have := h.dot d.toNat (by omega)
  rw [show ((d.toNat : Nat) : Int) = d by omega] at this
  exact this

set_option maxRecDepth 100000 in
set_option maxHeartbeats 4000000 in
theorem plain_any (b d n e : Int) (w : World) :
    Calls Tryd.prog 90 #[vl b d n e] w fun e w' => e = .returned (.bool (n == 0)) ∧ Below w.heap.size w w' := by
  go_enter Tryd.func90, Tryd.ntmps90
  go_wp2
  go_ret
  exact ⟨rfl, (by repeat (first | exact Below.refl _ _ | refine below_drewN ?_ _ | refine Below.drew ?_ | refine Below.setCell ?_ (by simp <;> omega) _ | refine Below.alloc ?_ (by simp <;> omega) _))⟩

set_option maxRecDepth 100000 in
set_option maxHeartbeats 4000000 in
theorem as_any (b d n e x y : Int) (w : World) :
    Calls Tryd.prog 92 #[vl b d n e, .int .i64 x, .int .i64 y] w fun ed w' => ed = .returned (vl x y n e) ∧ Below w.heap.size w w' := by
  go_enter Tryd.func92, Tryd.ntmps92
  go_wp2
  exact bodyPost_ret (v := vl x y n e) (by simp [results, Tryd.results92, go_sem]) rfl ⟨rfl, (by repeat (first | exact Below.refl _ _ | refine below_drewN ?_ _ | refine Below.drew ?_ | refine Below.setCell ?_ (by simp <;> omega) _ | refine Below.alloc ?_ (by simp <;> omega) _))⟩

set_option maxRecDepth 100000 in
set_option maxHeartbeats 4000000 in
theorem tuplet_no (b d n e : Int) (w : World) (hn : (n == 0) = true) :
    Calls Tryd.prog 80 #[vl b d n e] w fun e w' => e = .returned (.tuple #[.int .i64 1, .int .i64 1]) ∧ Below w.heap.size w w' := by
  have hB0 : Below w.heap.size w w := Below.refl _ _
  go_enter Tryd.func80, Tryd.ntmps80
  go_wp2_with fail
  refine (plain_any b d n e _).mono ?_
  rintro e w1 ⟨rfl, hb1⟩
  have hs1 : Below w.heap.size w w1 := Below.trans (by repeat (first | exact Below.refl _ _ | refine Below.alloc ?_ (by simp <;> omega) _)) (hb1.mono (by simp <;> omega))
  have c_v_0 : w1.cell? ⟨w.heap.size, 0, none⟩ = some (.int .i64 b) := (hb1.cell (by simp <;> omega)).trans (by go_simp)
  have c_v_1 : w1.cell? ⟨w.heap.size, 1, none⟩ = some (.int .i64 d) := (hb1.cell (by simp <;> omega)).trans (by go_simp)
  have c_v_2 : w1.cell? ⟨w.heap.size, 2, none⟩ = some (.int .i64 n) := (hb1.cell (by simp <;> omega)).trans (by go_simp)
  have c_v_3 : w1.cell? ⟨w.heap.size, 3, none⟩ = some (.int .i64 e) := (hb1.cell (by simp <;> omega)).trans (by go_simp)
  have z_v := World.block_lt_of_cell? _ _ c_v_0
  have hB1 := below_two hB0 hs1
  clear hB0 hs1 hb1
  rw [hn]
  go_wp2
  go_ret2
  exact ⟨rfl, hB1⟩

set_option maxRecDepth 100000 in
set_option maxHeartbeats 4000000 in
theorem tuplet_yes (b d n e : Int) (w : World) (hn : (n == 0) = false) :
    Calls Tryd.prog 80 #[vl b d n e] w fun ed w' => ed = .returned (.tuple #[.int .i64 n, .int .i64 e]) ∧ Below w.heap.size w w' := by
  have hB0 : Below w.heap.size w w := Below.refl _ _
  go_enter Tryd.func80, Tryd.ntmps80
  go_wp2_with fail
  refine (plain_any b d n e _).mono ?_
  rintro e w1 ⟨rfl, hb1⟩
  have hs1 : Below w.heap.size w w1 := Below.trans (by repeat (first | exact Below.refl _ _ | refine Below.alloc ?_ (by simp <;> omega) _)) (hb1.mono (by simp <;> omega))
  have c_v_0 : w1.cell? ⟨w.heap.size, 0, none⟩ = some (.int .i64 b) := (hb1.cell (by simp <;> omega)).trans (by go_simp)
  have c_v_1 : w1.cell? ⟨w.heap.size, 1, none⟩ = some (.int .i64 d) := (hb1.cell (by simp <;> omega)).trans (by go_simp)
  have c_v_2 : w1.cell? ⟨w.heap.size, 2, none⟩ = some (.int .i64 n) := (hb1.cell (by simp <;> omega)).trans (by go_simp)
  have c_v_3 : w1.cell? ⟨w.heap.size, 3, none⟩ = some (.int .i64 e) := (hb1.cell (by simp <;> omega)).trans (by go_simp)
  have z_v := World.block_lt_of_cell? _ _ c_v_0
  have hB1 := below_two hB0 hs1
  clear hB0 hs1 hb1
  rw [hn]
  go_wp2
  go_quiet (fail)
  go_wp2
  go_ret2
  exact ⟨rfl, below_drewN hB1 _⟩

theorem tuplet_any (b d n e : Int) (w : World) :
    Calls Tryd.prog 80 #[vl b d n e] w fun e' w' => e' = .returned (.tuple #[.int .i64 (Val.tn n), .int .i64 (Val.te n e)]) ∧ Below w.heap.size w w' := by
  unfold Val.tn Val.te
  by_cases h : n = 0
  · rw [if_pos h, if_pos h]; exact tuplet_no b d n e w (by simpa using h)
  · rw [if_neg h, if_neg h]; exact tuplet_yes b d n e w (by simpa using h)

theorem index_kinds {i : Nat} (hi : i < 4) (w : World) : (Instr.index 117 (.agg #[.int .i64 0, .int .i64 0, .int .i64 0, .int .i64 0, .int .i64 0, .int .i64 0, .int .i64 3, .int .i64 2, .int .i64 0, .int .i64 0, .int .i64 5, .int .i64 4, .int .i64 0, .int .i64 0, .int .i64 7, .int .i64 4]) (.int .i64 (i : Int))).run Tryd.prog w = .ok (vl 0 0 (Val.kN i) (Val.kE i)) w := by
  obtain rfl | rfl | rfl | rfl : i = 0 ∨ i = 1 ∨ i = 2 ∨ i = 3 := by omega
  all_goals kernel_rfl

/-- No value ahead of the k-th is so long. -/
def NoneTo (x y : Int) (k : Nat) : Prop := ∀ j, j < k → Val.isLen x y j = false

theorem NoneTo.next {x y : Int} {k : Nat} (h : NoneTo x y k) (hk : Val.isLen x y k = false) : NoneTo x y (k + 1) := fun j hj => by
  by_cases e : j = k
  · rw [e]; exact hk
  · exact h j (by omega)

structure FMem (x y : Int) (w wr : World) : Prop where
  l0 : wr.cell? ⟨w.heap.size, 0, none⟩ = some (.int .i64 x)
  l1 : wr.cell? ⟨w.heap.size, 1, none⟩ = some (.int .i64 y)
  c0 : wr.cell? ⟨w.heap.size + 1, 0, none⟩ = some (.int .i64 0)
  c1 : wr.cell? ⟨w.heap.size + 1, 1, none⟩ = some (.int .i64 0)
  c2 : wr.cell? ⟨w.heap.size + 1, 2, none⟩ = some (.int .i64 0)
  c3 : wr.cell? ⟨w.heap.size + 1, 3, none⟩ = some (.int .i64 0)
  g0 : wr.frozen? ⟨w.heap.size + 1, 0, none⟩ = false
  g1 : wr.frozen? ⟨w.heap.size + 1, 1, none⟩ = false
  g2 : wr.frozen? ⟨w.heap.size + 1, 2, none⟩ = false
  g3 : wr.frozen? ⟨w.heap.size + 1, 3, none⟩ = false
  below : Below w.heap.size w wr

theorem FMem.later {x y : Int} {w wr wx : World} (h : FMem x y w wr) (hb : Below wr.heap.size wr wx) : FMem x y w wx :=
  ⟨cell_later hb h.l0, cell_later hb h.l1, cell_later hb h.c0, cell_later hb h.c1, cell_later hb h.c2, cell_later hb h.c3, frozen_later hb h.c0 h.g0, frozen_later hb h.c1 h.g1, frozen_later hb h.c2 h.g2, frozen_later hb h.c3 h.g3, below_two h.below hb⟩

/-- A value's four cells. -/
structure V4 (b d n e : Int) (K : Nat) (wr : World) : Prop where
  k0 : wr.cell? ⟨K, 0, none⟩ = some (.int .i64 b)
  k1 : wr.cell? ⟨K, 1, none⟩ = some (.int .i64 d)
  k2 : wr.cell? ⟨K, 2, none⟩ = some (.int .i64 n)
  k3 : wr.cell? ⟨K, 3, none⟩ = some (.int .i64 e)

theorem V4.later {b d n e : Int} {K : Nat} {wr wx : World} (h : V4 b d n e K wr) (hb : Below wr.heap.size wr wx) : V4 b d n e K wx := ⟨cell_later hb h.k0, cell_later hb h.k1, cell_later hb h.k2, cell_later hb h.k3⟩

theorem V4.new (w : World) (b d n e : Int) (t : TypeId) : V4 b d n e w.heap.size (w.alloc (.cells #[.int .i64 b, .int .i64 d, .int .i64 n, .int .i64 e] t)) := ⟨by go_simp, by go_simp, by go_simp, by go_simp⟩

set_option maxRecDepth 100000 in
set_option maxHeartbeats 4000000 in
theorem units_yes (x y n e t u p M P D E : Int) (w : World) (HT : Hid (Val.tn n = t ∧ Val.te n e = u)) (ht : IntKind.i64.wrap (64 * t) = p) (ip : Rat.I64 p) (iu : Rat.I64 u) (HO : Hid (Rat.ofN p u = M ∧ Rat.ofD p u = 1 ∧ Rat.ofE p u = 0)) (HM : Hid (∀ w, Calls Tryd.prog 81 #[rt x y, rt M 1] w fun ed w' => ed = .returned (rv P D E) ∧ Below w.heap.size w w')) (hE : (E == 0) = true) :
    Calls Tryd.prog 58 #[rt x y, vl 0 0 n e] w fun ed w' => ed = .returned (.tuple #[.int .i64 P, .bool (D == 1)]) ∧ Below w.heap.size w w' := by
  have hB0 : Below w.heap.size w w := Below.refl _ _
  go_enter Tryd.func58, Tryd.ntmps58
  go_wp2_with fail
  refine (tuplet_any 0 0 n e _).mono ?_
  rintro e w1 ⟨rfl, hb1⟩
  have hs1 : Below w.heap.size w w1 := Below.trans (by repeat (first | exact Below.refl _ _ | refine Below.alloc ?_ (by simp <;> omega) _)) (hb1.mono (by simp <;> omega))
  have c_l_0 : w1.cell? ⟨w.heap.size, 0, none⟩ = some (.int .i64 x) := (hb1.cell (by simp <;> omega)).trans (by go_simp)
  have c_l_1 : w1.cell? ⟨w.heap.size, 1, none⟩ = some (.int .i64 y) := (hb1.cell (by simp <;> omega)).trans (by go_simp)
  have z_l := World.block_lt_of_cell? _ _ c_l_0
  have hB1 := below_two hB0 hs1
  clear hB0 hs1 hb1
  rw [HT.out.1, HT.out.2]
  go_wp2_with fail
  refine (of_any _ _ _ ip iu).mono ?_
  rintro e w2 ⟨rfl, hb2⟩
  have hs2 := hb2
  replace c_l_0 := cell_later hs2 c_l_0
  replace c_l_1 := cell_later hs2 c_l_1
  clear z_l
  have z_l := World.block_lt_of_cell? _ _ c_l_0
  have hB2 := below_two hB1 hs2
  clear hB1 hs2
  rw [HO.out.1, HO.out.2.1, HO.out.2.2]
  go_wp2_with fail
  refine (HM.out _).mono ?_
  rintro e w3 ⟨rfl, hb3⟩
  have hs3 : Below w2.heap.size w2 w3 := Below.trans (by repeat (first | exact Below.refl _ _ | refine Below.alloc ?_ (by simp <;> omega) _)) (hb3.mono (by simp <;> omega))
  clear c_l_0
  clear c_l_1
  clear z_l
  have hB3 := below_two hB2 hs3
  clear hB2 hs3 hb3
  go_wp2_with fail
  go_quiet (fail)
  go_wp2
  go_ret2
  exact ⟨rfl, (by first | exact below_drewN (alloc_below hB3) _ | exact alloc_below (below_drewN hB3 _))⟩

set_option maxRecDepth 100000 in
set_option maxHeartbeats 4000000 in
theorem units_no (x y n e t u p M P D E : Int) (w : World) (HT : Hid (Val.tn n = t ∧ Val.te n e = u)) (ht : IntKind.i64.wrap (64 * t) = p) (ip : Rat.I64 p) (iu : Rat.I64 u) (HO : Hid (Rat.ofN p u = M ∧ Rat.ofD p u = 1 ∧ Rat.ofE p u = 0)) (HM : Hid (∀ w, Calls Tryd.prog 81 #[rt x y, rt M 1] w fun ed w' => ed = .returned (rv P D E) ∧ Below w.heap.size w w')) (hE : (E == 0) = false) :
    Calls Tryd.prog 58 #[rt x y, vl 0 0 n e] w fun ed w' => ed = .returned (.tuple #[.int .i64 P, .bool false]) ∧ Below w.heap.size w w' := by
  have hB0 : Below w.heap.size w w := Below.refl _ _
  go_enter Tryd.func58, Tryd.ntmps58
  go_wp2_with fail
  refine (tuplet_any 0 0 n e _).mono ?_
  rintro e w1 ⟨rfl, hb1⟩
  have hs1 : Below w.heap.size w w1 := Below.trans (by repeat (first | exact Below.refl _ _ | refine Below.alloc ?_ (by simp <;> omega) _)) (hb1.mono (by simp <;> omega))
  have c_l_0 : w1.cell? ⟨w.heap.size, 0, none⟩ = some (.int .i64 x) := (hb1.cell (by simp <;> omega)).trans (by go_simp)
  have c_l_1 : w1.cell? ⟨w.heap.size, 1, none⟩ = some (.int .i64 y) := (hb1.cell (by simp <;> omega)).trans (by go_simp)
  have z_l := World.block_lt_of_cell? _ _ c_l_0
  have hB1 := below_two hB0 hs1
  clear hB0 hs1 hb1
  rw [HT.out.1, HT.out.2]
  go_wp2_with fail
  refine (of_any _ _ _ ip iu).mono ?_
  rintro e w2 ⟨rfl, hb2⟩
  have hs2 := hb2
  replace c_l_0 := cell_later hs2 c_l_0
  replace c_l_1 := cell_later hs2 c_l_1
  clear z_l
  have z_l := World.block_lt_of_cell? _ _ c_l_0
  have hB2 := below_two hB1 hs2
  clear hB1 hs2
  rw [HO.out.1, HO.out.2.1, HO.out.2.2]
  go_wp2_with fail
  refine (HM.out _).mono ?_
  rintro e w3 ⟨rfl, hb3⟩
  have hs3 : Below w2.heap.size w2 w3 := Below.trans (by repeat (first | exact Below.refl _ _ | refine Below.alloc ?_ (by simp <;> omega) _)) (hb3.mono (by simp <;> omega))
  clear c_l_0
  clear c_l_1
  clear z_l
  have hB3 := below_two hB2 hs3
  clear hB2 hs3 hb3
  go_wp2_with fail
  go_quiet (fail)
  go_wp2
  go_ret2
  exact ⟨rfl, (by first | exact below_drewN (alloc_below hB3) _ | exact alloc_below (below_drewN hB3 _))⟩

/-- The kinds' units, in Of's terms. -/
theorem unit_of {i : Nat} (hi : i < 4) : Rat.ofN (64 * Val.tn (Val.kN i)) (Val.te (Val.kN i) (Val.kE i)) = Val.mI i ∧ Rat.ofD (64 * Val.tn (Val.kN i)) (Val.te (Val.kN i) (Val.kE i)) = 1 ∧ Rat.ofE (64 * Val.tn (Val.kN i)) (Val.te (Val.kN i) (Val.kE i)) = 0 := by
  have key : ∀ i : Fin 4, Rat.ofN (64 * Val.tn (Val.kN i.val)) (Val.te (Val.kN i.val) (Val.kE i.val)) = Val.mI i.val ∧ Rat.ofD (64 * Val.tn (Val.kN i.val)) (Val.te (Val.kN i.val) (Val.kE i.val)) = 1 ∧ Rat.ofE (64 * Val.tn (Val.kN i.val)) (Val.te (Val.kN i.val) (Val.kE i.val)) = 0 := by decide +kernel
  exact key ⟨i, hi⟩

theorem kunit_right {i : Nat} (hi : i < 4) : Rat.right (Val.mI i) 1 = true := by
  have key : ∀ i : Fin 4, Rat.right (Val.mI i.val) 1 = true := by decide +kernel
  exact key ⟨i, hi⟩

theorem mI_le {i : Nat} (hi : i < 4) : 64 ≤ Val.mI i ∧ Val.mI i ≤ 112 := by
  rcases Val.mI_cases hi with ⟨_, h, _⟩ | ⟨_, h, _⟩ | ⟨_, h, _⟩ | ⟨_, h, _⟩ <;> rw [h] <;> decide

theorem may_iff (x y : Int) : Val.may x y = true ↔ Rat.IsRight x y ∧ 0 < x ∧ x ≤ 64 * y := by
  unfold Val.may
  rw [Bool.and_eq_true, Bool.and_eq_true, Rat.right_iff, decide_eq_true_iff, decide_eq_true_iff]

theorem unit_le {x y : Int} (h : Val.may x y = true) {i : Nat} (hi : i < 4) : 0 ≤ Val.uI x y i ∧ Val.uI x y i ≤ 7168 := by
  obtain ⟨hr, h0, h64⟩ := (may_iff x y).1 h
  obtain ⟨m0, m1⟩ := mI_le hi
  have hy := hr.d1
  have h1 : x * Val.mI i ≤ x * 112 := Int.mul_le_mul_of_nonneg_left m1 (by omega)
  have h2 : 0 ≤ x * Val.mI i := Int.mul_nonneg (by omega) (by omega)
  unfold Val.uI
  refine ⟨Int.ediv_nonneg h2 (by omega), ?_⟩
  exact Int.le_of_lt_add_one (Int.ediv_lt_of_lt_mul (by omega) (by omega))

theorem unit_is {x y : Int} (h : Val.may x y = true) {i : Nat} (hi : i < 4) :
    (Val.unI x y i = true ∧ Rat.ofE (x * Val.mI i) (y * 1) = 0 ∧ Rat.ofN (x * Val.mI i) (y * 1) = Val.uI x y i ∧ Rat.ofD (x * Val.mI i) (y * 1) = 1) ∨ (Val.unI x y i = false ∧ (Rat.ofE (x * Val.mI i) (y * 1) ≠ 0 ∨ Rat.ofD (x * Val.mI i) (y * 1) ≠ 1)) := by
  obtain ⟨u0, u1⟩ := unit_le h hi
  obtain ⟨hr, h0, h64⟩ := (may_iff x y).1 h
  have hy := hr.d1
  have hM := Rat.M_eq
  rw [Int.mul_one]
  by_cases hw : (x * Val.mI i) % y = 0
  · left
    refine ⟨by unfold Val.unI; exact decide_eq_true hw, ?_⟩
    have e : Val.uI x y i * y = x * Val.mI i := by unfold Val.uI; exact Int.ediv_mul_cancel_of_emod_eq_zero hw
    exact Rat.of_complete (by omega) ⟨by omega, by omega, by omega, by omega, by simp⟩ (by rw [e]; omega)
  · right
    refine ⟨by unfold Val.unI; exact decide_eq_false hw, ?_⟩
    by_cases hE : Rat.ofE (x * Val.mI i) y = 0
    · right
      intro hD
      have := (Rat.of_sound hE).2.1
      rw [hD, Int.mul_one] at this
      exact hw (by rw [← this]; exact Int.mul_emod_left _ _)
    · exact .inl hE

/-- What units answers for a kind. -/
theorem units_any {x y : Int} (h : Val.may x y = true) {i : Nat} (hi : i < 4) :
    ∃ p : Int, (Val.unI x y i = true → p = Val.uI x y i) ∧ ∀ w, Calls Tryd.prog 58 #[rt x y, vl 0 0 (Val.kN i) (Val.kE i)] w fun ed w' => ed = .returned (.tuple #[.int .i64 p, .bool (Val.unI x y i)]) ∧ Below w.heap.size w w' := by
  have hk := Val.mI_cases hi
  have hr := ((may_iff x y).1 h).1
  have ht : 1 ≤ Val.tn (Val.kN i) ∧ Val.tn (Val.kN i) ≤ 7 ∧ 1 ≤ Val.te (Val.kN i) (Val.kE i) ∧ Val.te (Val.kN i) (Val.kE i) ≤ 4 := by
    have key : ∀ i : Fin 4, 1 ≤ Val.tn (Val.kN i.val) ∧ Val.tn (Val.kN i.val) ≤ 7 ∧ 1 ≤ Val.te (Val.kN i.val) (Val.kE i.val) ∧ Val.te (Val.kN i.val) (Val.kE i.val) ≤ 4 := by decide
    exact key ⟨i, hi⟩
  have hb : (Rat.right x y && Rat.right (Val.mI i) 1) = true := by rw [(Rat.right_iff x y).2 hr, kunit_right hi]; rfl
  have hM : Hid (∀ w, Calls Tryd.prog 81 #[rt x y, rt (Val.mI i) 1] w fun ed w' => ed = .returned (rv (Rat.ofN (x * Val.mI i) (y * 1)) (Rat.ofD (x * Val.mI i) (y * 1)) (Rat.ofE (x * Val.mI i) (y * 1))) ∧ Below w.heap.size w w') := Lib.hid (fun w => by
    have := mul_any x y (Val.mI i) 1 w
    rw [hb] at this
    exact this)
  refine ⟨Rat.ofN (x * Val.mI i) (y * 1), ?_, fun w => ?_⟩
  · intro hu
    rcases unit_is h hi with ⟨_, _, e, _⟩ | ⟨e, _⟩
    · exact e
    · rw [hu] at e; cases e
  · rcases unit_is h hi with ⟨e, e1, _, e3⟩ | ⟨e, e1⟩
    · have := units_yes x y (Val.kN i) (Val.kE i) _ _ _ _ _ _ _ w (Lib.hid ⟨rfl, rfl⟩) (IntWalk.i64_in _ (by omega)) (by unfold Rat.I64; omega) (by unfold Rat.I64; omega) (Lib.hid (unit_of hi)) hM (by rw [e1]; rfl)
      rw [e3] at this
      rw [e]
      exact this
    · by_cases hE : Rat.ofE (x * Val.mI i) (y * 1) = 0
      · have hD : (Rat.ofD (x * Val.mI i) (y * 1) == 1) = false := by
          rcases e1 with e1 | e1
          · exact absurd hE e1
          · simpa using e1
        have := units_yes x y (Val.kN i) (Val.kE i) _ _ _ _ _ _ _ w (Lib.hid ⟨rfl, rfl⟩) (IntWalk.i64_in _ (by omega)) (by unfold Rat.I64; omega) (by unfold Rat.I64; omega) (Lib.hid (unit_of hi)) hM (by rw [hE]; rfl)
        rw [hD] at this
        rw [e]
        exact this
      · rw [e]
        exact units_no x y (Val.kN i) (Val.kE i) _ _ _ _ _ _ _ w (Lib.hid ⟨rfl, rfl⟩) (IntWalk.i64_in _ (by omega)) (by unfold Rat.I64; omega) (by unfold Rat.I64; omega) (Lib.hid (unit_of hi)) hM (by simpa using hE)

def NoFit (m : Int) (k : Nat) : Prop := ∀ j, j < k → Val.fits m j = false

theorem NoFit.next {m : Int} {k : Nat} (h : NoFit m k) (hk : Val.fits m k = false) : NoFit m (k + 1) := fun j hj => by
  by_cases e : j = k
  · rw [e]; exact hk
  · exact h j (by omega)

theorem f_at {b c : Nat} (hc : c < 3) : Val.fB (3 * b + c) = (b : Int) ∧ Val.fT (3 * b + c) = 2 - (c : Int) := by
  unfold Val.fB Val.fT; omega

structure TMem (b d n e : Int) (w wr : World) : Prop where
  k : V4 b d n e w.heap.size wr
  c0 : wr.cell? ⟨w.heap.size + 1, 0, none⟩ = some (.int .i64 0)
  c1 : wr.cell? ⟨w.heap.size + 1, 1, none⟩ = some (.int .i64 0)
  c2 : wr.cell? ⟨w.heap.size + 1, 2, none⟩ = some (.int .i64 0)
  c3 : wr.cell? ⟨w.heap.size + 1, 3, none⟩ = some (.int .i64 0)
  g0 : wr.frozen? ⟨w.heap.size + 1, 0, none⟩ = false
  g1 : wr.frozen? ⟨w.heap.size + 1, 1, none⟩ = false
  g2 : wr.frozen? ⟨w.heap.size + 1, 2, none⟩ = false
  g3 : wr.frozen? ⟨w.heap.size + 1, 3, none⟩ = false
  below : Below w.heap.size w wr

theorem TMem.later {b d n e : Int} {w wr wx : World} (h : TMem b d n e w wr) (hb : Below wr.heap.size wr wx) : TMem b d n e w wx :=
  ⟨h.k.later hb, cell_later hb h.c0, cell_later hb h.c1, cell_later hb h.c2, cell_later hb h.c3, frozen_later hb h.c0 h.g0, frozen_later hb h.c1 h.g1, frozen_later hb h.c2 h.g2, frozen_later hb h.c3 h.g3, below_two h.below hb⟩

def TOut (m b d n e : Int) (w : World) (a : Value) (wr : World) : Prop := ∃ i : Nat, a = .int .i64 (i : Int) ∧ i ≤ 7 ∧ Hid (NoFit m (3 * i)) ∧ TMem b d n e w wr

def TIn (m b d n e : Int) (w : World) (i : Nat) (a : Value) (wr : World) : Prop := ∃ (c : Nat) (t : Int), a = .int .i64 t ∧ c ≤ 3 ∧ Hid (t = 2 - (c : Int)) ∧ Hid (NoFit m (3 * i + c)) ∧ TMem b d n e w wr

set_option maxRecDepth 100000 in
set_option maxHeartbeats 4000000 in
theorem fit_any (b d n e m : Int) (w : World) (hR : Vars w) (hm : 1 ≤ m) :
    Calls Tryd.prog 82 #[vl b d n e, .int .i64 m] w fun ed w' => ed = .returned (.tuple #[vl (Val.gB m) (Val.gT m) n e, .int .i64 (Val.gU m)]) ∧ Below w.heap.size w w' := by
  have zg := World.block_lt_of_cell? _ _ (hR.kind 0 (by decide))
  simp only at zg
  have hB0 : Below w.heap.size w w := Below.refl _ _
  go_enter Tryd.func82, Tryd.ntmps82
  go_wp2_with fail
  have hs1 : Below w.heap.size w ((w.alloc (.cells #[.int .i64 b, .int .i64 d, .int .i64 n, .int .i64 e] 49)).alloc (.cells #[.int .i64 0, .int .i64 0, .int .i64 0, .int .i64 0] 49)) := by repeat (first | exact Below.refl _ _ | refine Below.alloc ?_ (by simp <;> omega) _)
  have c_k_0 : ((w.alloc (.cells #[.int .i64 b, .int .i64 d, .int .i64 n, .int .i64 e] 49)).alloc (.cells #[.int .i64 0, .int .i64 0, .int .i64 0, .int .i64 0] 49)).cell? ⟨w.heap.size, 0, none⟩ = some (.int .i64 b) := by go_simp
  have c_k_1 : ((w.alloc (.cells #[.int .i64 b, .int .i64 d, .int .i64 n, .int .i64 e] 49)).alloc (.cells #[.int .i64 0, .int .i64 0, .int .i64 0, .int .i64 0] 49)).cell? ⟨w.heap.size, 1, none⟩ = some (.int .i64 d) := by go_simp
  have c_k_2 : ((w.alloc (.cells #[.int .i64 b, .int .i64 d, .int .i64 n, .int .i64 e] 49)).alloc (.cells #[.int .i64 0, .int .i64 0, .int .i64 0, .int .i64 0] 49)).cell? ⟨w.heap.size, 2, none⟩ = some (.int .i64 n) := by go_simp
  have c_k_3 : ((w.alloc (.cells #[.int .i64 b, .int .i64 d, .int .i64 n, .int .i64 e] 49)).alloc (.cells #[.int .i64 0, .int .i64 0, .int .i64 0, .int .i64 0] 49)).cell? ⟨w.heap.size, 3, none⟩ = some (.int .i64 e) := by go_simp
  have c_r_0 : ((w.alloc (.cells #[.int .i64 b, .int .i64 d, .int .i64 n, .int .i64 e] 49)).alloc (.cells #[.int .i64 0, .int .i64 0, .int .i64 0, .int .i64 0] 49)).cell? ⟨w.heap.size + 1, 0, none⟩ = some (.int .i64 0) := by go_simp
  have f_r_0 : ((w.alloc (.cells #[.int .i64 b, .int .i64 d, .int .i64 n, .int .i64 e] 49)).alloc (.cells #[.int .i64 0, .int .i64 0, .int .i64 0, .int .i64 0] 49)).frozen? ⟨w.heap.size + 1, 0, none⟩ = false := by go_simp
  have c_r_1 : ((w.alloc (.cells #[.int .i64 b, .int .i64 d, .int .i64 n, .int .i64 e] 49)).alloc (.cells #[.int .i64 0, .int .i64 0, .int .i64 0, .int .i64 0] 49)).cell? ⟨w.heap.size + 1, 1, none⟩ = some (.int .i64 0) := by go_simp
  have f_r_1 : ((w.alloc (.cells #[.int .i64 b, .int .i64 d, .int .i64 n, .int .i64 e] 49)).alloc (.cells #[.int .i64 0, .int .i64 0, .int .i64 0, .int .i64 0] 49)).frozen? ⟨w.heap.size + 1, 1, none⟩ = false := by go_simp
  have c_r_2 : ((w.alloc (.cells #[.int .i64 b, .int .i64 d, .int .i64 n, .int .i64 e] 49)).alloc (.cells #[.int .i64 0, .int .i64 0, .int .i64 0, .int .i64 0] 49)).cell? ⟨w.heap.size + 1, 2, none⟩ = some (.int .i64 0) := by go_simp
  have f_r_2 : ((w.alloc (.cells #[.int .i64 b, .int .i64 d, .int .i64 n, .int .i64 e] 49)).alloc (.cells #[.int .i64 0, .int .i64 0, .int .i64 0, .int .i64 0] 49)).frozen? ⟨w.heap.size + 1, 2, none⟩ = false := by go_simp
  have c_r_3 : ((w.alloc (.cells #[.int .i64 b, .int .i64 d, .int .i64 n, .int .i64 e] 49)).alloc (.cells #[.int .i64 0, .int .i64 0, .int .i64 0, .int .i64 0] 49)).cell? ⟨w.heap.size + 1, 3, none⟩ = some (.int .i64 0) := by go_simp
  have f_r_3 : ((w.alloc (.cells #[.int .i64 b, .int .i64 d, .int .i64 n, .int .i64 e] 49)).alloc (.cells #[.int .i64 0, .int .i64 0, .int .i64 0, .int .i64 0] 49)).frozen? ⟨w.heap.size + 1, 3, none⟩ = false := by go_simp
  have hB1 := below_two hB0 hs1
  clear hB0 hs1
  generalize ((w.alloc (.cells #[.int .i64 b, .int .i64 d, .int .i64 n, .int .i64 e] 49)).alloc (.cells #[.int .i64 0, .int .i64 0, .int .i64 0, .int .i64 0] 49)) = w1 at *
  have z_k := World.block_lt_of_cell? _ _ c_k_0
  have z_r := World.block_lt_of_cell? _ _ c_r_0
  have hM : TMem b d n e w w1 := ⟨⟨c_k_0, c_k_1, c_k_2, c_k_3⟩, c_r_0, c_r_1, c_r_2, c_r_3, f_r_0, f_r_1, f_r_2, f_r_3, hB1⟩
  clear c_k_0 c_k_1 c_k_2 c_k_3 c_r_0 c_r_1 c_r_2 c_r_3 f_r_0 f_r_1 f_r_2 f_r_3 hB1 z_k z_r
  go_loopw [9] (fun a wr => TOut m b d n e w a wr) (fun a _ => (7 - intOf a).toNat)
  case atStart => exact ⟨0, rfl, by omega, Lib.hid (fun j hj => by omega), hM⟩
  case round =>
    clear hM
    obtain ⟨i, rfl, hi, HN, hM⟩ := hrel
    by_cases hp : i < 7
    · go_wp2_with fail
      go_loopw [7] (fun a wr => TIn m b d n e w i a wr) (fun a _ => (intOf a + 1).toNat)
      case atStart => exact ⟨0, 2, rfl, by omega, Lib.hid rfl, Lib.hid HN.out, hM⟩
      case round =>
        clear hM
        obtain ⟨c, t, rfl, hc, HT, HN2, hM⟩ := hrel
        by_cases h0 : 0 ≤ t
        · have hc3 : c < 3 := by have := HT.out; omega
          have t3 : t < 3 := by have := HT.out; omega
          have hR1 := hR.below hM.below
          obtain ⟨X, HX⟩ : ∃ X, Hid (Val.ba i = X) := ⟨_, Lib.hid rfl⟩
          obtain ⟨Y, HY⟩ : ∃ Y, Hid (Val.dt t = Y) := ⟨_, Lib.hid rfl⟩
          have ga := hR1.base i hp
          have gb := hR1.dotI h0 (by omega)
          rw [HX.out] at ga
          rw [HY.out] at gb
          obtain ⟨N, HU⟩ : ∃ N, Hid (Val.fU (3 * i + c) = N) := ⟨_, Lib.hid rfl⟩
          have HE : Hid (X * Y = N) := Lib.hid (by rw [← HU.out, ← HX.out, ← HY.out]; unfold Val.fU; rw [(f_at hc3).1, (f_at hc3).2, HT.out])
          have hN : 4 ≤ N ∧ N ≤ 448 := by
            have := Val.bd_bounds (b := (i : Int)) (d := t) (by omega) (by omega) h0 (by omega)
            rw [HX.out, HY.out, HE.out] at this
            exact this
          have hw : IntKind.i64.wrap (X * Y) = N := by rw [HE.out]; exact IntWalk.i64_in _ (by omega)
          have HF : Hid (Val.fits m (3 * i + c) = (decide (N % 4 = 0) && decide (N / 4 ≤ m))) := Lib.hid (by unfold Val.fits; rw [HU.out])
          clear hR1
          go_wp2_with fail
          go_quiet (fail)
          have hM2 := hM.later (below_drewN (Below.refl _ _) nq)
          have HM2 := Lib.hid hM2
          clear hM hM2 ga gb hw
          generalize wr.drewN nq = wd at *
          by_cases hq : N % 4 = 0
          · have hq2 : (N % 4 == 0) = true := by simpa using hq
            by_cases hl : N / 4 ≤ m
            · obtain ⟨k0, k1, k2, k3⟩ := HM2.out.k
              go_wp2_with fail
              refine (as_any b d n e i t _).mono ?_
              rintro ed w5 ⟨rfl, hb5⟩
              have hM5 := HM2.out.later hb5
              obtain ⟨hk, c0, c1, c2, c3, g0, g1, g2, g3, hB⟩ := hM5
              clear hk hb5 HM2 k0 k1 k2 k3
              have HV : Hid (Val.gB m = i ∧ Val.gT m = t ∧ Val.gU m = N / 4) := Lib.hid (by
                have : Val.fitK m = 3 * i + c := Val.fst_found (by omega) HN2.out (by rw [HF.out, decide_eq_true hq, decide_eq_true hl]; rfl)
                unfold Val.gB Val.gT Val.gU
                rw [this, (f_at hc3).1, (f_at hc3).2, HU.out, HT.out]
                exact ⟨rfl, rfl, rfl⟩)
              obtain ⟨m0, m1, m2, m3⟩ := put4_of (x := .int .i64 (i : Int)) (y := .int .i64 t) (z := .int .i64 n) (u := .int .i64 e) c0 c1 c2 c3
              go_wp2
              rw [HV.out.1, HV.out.2.1, HV.out.2.2]
              exact bodyPost_ret (v := .tuple #[vl i t n e, .int .i64 (N / 4)]) (by simp [results, Tryd.results82, go_sem, m0, m1, m2, m3]) rfl ⟨rfl, put4_below hB (by omega)⟩
            · have HX2 : Hid (Val.fits m (3 * i + c) = false) := Lib.hid (by rw [HF.out, decide_eq_false hl]; simp)
              clear HF HE
              go_wp2
              go_roundw
              case rel => exact ⟨c + 1, t - 1, rfl, by omega, Lib.hid (by have := HT.out; omega), Lib.hid (HN2.out.next HX2.out), HM2.out⟩
              case measure => simp [intOf]; omega
          · have hq2 : (N % 4 == 0) = false := by simpa using hq
            have HX2 : Hid (Val.fits m (3 * i + c) = false) := Lib.hid (by rw [HF.out, decide_eq_false hq]; rfl)
            clear HF HE
            go_wp2
            go_roundw
            case rel => exact ⟨c + 1, t - 1, rfl, by omega, Lib.hid (by have := HT.out; omega), Lib.hid (HN2.out.next HX2.out), HM2.out⟩
            case measure => simp [intOf]; omega
        · obtain rfl : c = 3 := by have := HT.out; omega
          go_wp2
          go_roundw
          case rel => exact ⟨i + 1, by go_num, by omega, Lib.hid (by have := HN2.out; rw [show 3 * (i + 1) = 3 * i + 3 by omega]; exact this), hM⟩
          case measure => simp [intOf]; omega
    · obtain rfl : i = 7 := by omega
      exfalso
      have h1 : Val.fitK m = 21 := Val.fst_none HN.out
      have := (Val.fitK_lt hm).1
      omega

abbrev Quad := Int × Int × Int × Int

def rowOf (l : List Quad) : List Value := l.flatMap fun p => [.int .i64 p.1, .int .i64 p.2.1, .int .i64 p.2.2.1, .int .i64 p.2.2.2]

theorem rowOf_append (l m : List Quad) : rowOf (l ++ m) = rowOf l ++ rowOf m := by unfold rowOf; simp

theorem rowOf_length (l : List Quad) : (rowOf l).length = 4 * l.length := by
  induction l with
  | nil => rfl
  | cons x l ih => rw [show x :: l = [x] ++ l from rfl, rowOf_append, List.length_append, ih, List.length_append]; simp [rowOf]; omega

theorem rowOf_at (f : Nat → Quad) {n i : Nat} (h : i < n) : (rowOf (Val.upto f n))[i * 4]? = some (.int .i64 (f i).1) ∧ (rowOf (Val.upto f n))[i * 4 + 1]? = some (.int .i64 (f i).2.1) ∧ (rowOf (Val.upto f n))[i * 4 + 2]? = some (.int .i64 (f i).2.2.1) ∧ (rowOf (Val.upto f n))[i * 4 + 3]? = some (.int .i64 (f i).2.2.2) := by
  induction n with
  | zero => omega
  | succ n ih =>
    have hl := rowOf_length (Val.upto f n)
    rw [Val.upto_length] at hl
    rw [Val.upto_succ, rowOf_append]
    by_cases hi : i < n
    · obtain ⟨a, b, c, d⟩ := ih hi
      rw [List.getElem?_append_left (by omega), List.getElem?_append_left (by omega), List.getElem?_append_left (by omega), List.getElem?_append_left (by omega)]
      exact ⟨a, b, c, d⟩
    · obtain rfl : i = n := by omega
      rw [List.getElem?_append_right (by omega), List.getElem?_append_right (by omega), List.getElem?_append_right (by omega), List.getElem?_append_right (by omega), hl, show i * 4 - 4 * i = 0 by omega, show i * 4 + 1 - 4 * i = 1 by omega, show i * 4 + 2 - 4 * i = 2 by omega, show i * 4 + 3 - 4 * i = 3 by omega]
      exact ⟨rfl, rfl, rfl, rfl⟩

theorem infoV : (Tryd.prog.info? 49).map (fun i => (i.zero, i.size, i.bytes)) = some (some (.agg #[.int .i64 0, .int .i64 0, .int .i64 0, .int .i64 0]), 4, 32) := by kernel_rfl

theorem own_nil (w : World) (base : Nat) (e : TypeId) (size : Nat) : w.ownsRow base e size (.slice none 0 0) 0 [] := ⟨by simp, .inl ⟨rfl, rfl⟩⟩

/-- A list of values in memory. -/
def Row (W : World) (v : Value) (f : Nat → Quad) (n : Nat) : Prop :=
  ∃ g cap, v = .slice (some ⟨g, 0, none⟩) n cap ∧ ∀ i, i < n → W.cell? ⟨g, i * 4, none⟩ = some (.int .i64 (f i).1) ∧ W.cell? ⟨g, i * 4 + 1, none⟩ = some (.int .i64 (f i).2.1) ∧ W.cell? ⟨g, i * 4 + 2, none⟩ = some (.int .i64 (f i).2.2.1) ∧ W.cell? ⟨g, i * 4 + 3, none⟩ = some (.int .i64 (f i).2.2.2)

theorem Row.later {W W' : World} {v : Value} {f : Nat → Quad} {n : Nat} (h : Row W v f n) (hb : Below W.heap.size W W') : Row W' v f n := by
  obtain ⟨g, cap, rfl, hc⟩ := h
  exact ⟨g, cap, rfl, fun i hi => ⟨cell_later hb (hc i hi).1, cell_later hb (hc i hi).2.1, cell_later hb (hc i hi).2.2.1, cell_later hb (hc i hi).2.2.2⟩⟩

theorem cell_of_cells {W : World} {g j : Nat} {cur : Array Value} {e : TypeId} {v : Value} (h : W.heap[g]? = some (.cells cur e (0, 0))) (hc : cur[j]? = some v) : W.cell? ⟨g, j, none⟩ = some v := by
  unfold World.cell?
  simp [h, hc]

theorem row_of {W : World} {base : Nat} {e : TypeId} {v : Value} {f : Nat → Quad} {n : Nat} (hn : 0 < n) (h : W.ownsRow base e 4 v n (rowOf (Val.upto f n))) : Row W v f n := by
  obtain ⟨hl, ⟨_, h0⟩ | ⟨g, cap, cur, rfl, _, hg, hcap, _, hsz, ht⟩⟩ := h
  · omega
  · refine ⟨g, cap, rfl, fun i hi => ?_⟩
    have key : ∀ j, j < n * 4 → cur[j]? = (rowOf (Val.upto f n))[j]? := fun j hj => by
      rw [← ht, List.getElem?_take, if_pos hj, Array.getElem?_toList]
    obtain ⟨a, b, c, d⟩ := rowOf_at f hi
    exact ⟨cell_of_cells hg ((key _ (by omega)).trans a), cell_of_cells hg ((key _ (by omega)).trans b), cell_of_cells hg ((key _ (by omega)).trans c), cell_of_cells hg ((key _ (by omega)).trans d)⟩

/-- The parts of so many units, of a kind. -/
def prt (u n e : Int) (j : Nat) : Quad := (Val.gB (Val.rm u j), Val.gT (Val.rm u j), n, e)

theorem cells4_new (w : World) (t : TypeId) (x y z q : Value) {n : Nat} (hn : w.heap.size = n) : ∀ (jj : Nat) (u : Value), [x, y, z, q][jj]? = some u → (w.alloc (.cells #[x, y, z, q] t)).cell? (Addr.add ⟨n, 0, none⟩ jj) = some u := by
  subst hn
  intro jj u hu
  rcases jj with _ | _ | _ | _ | jj
  · simp at hu; subst hu; simp [Addr.add]
  · simp at hu; subst hu; simp [Addr.add]
  · simp at hu; subst hu; simp [Addr.add]
  · simp at hu; subst hu; simp [Addr.add]
  · simp at hu

def FillPost (u n e : Int) (w : World) (ed : Ending) (w' : World) : Prop := (∃ v k, ed = .returned v ∧ Val.Fills u k ∧ 1 ≤ k ∧ Row w' v (prt u n e) k) ∧ Below w.heap.size w w'

def FillRel (u b d n e : Int) (w : World) (a l : Value) (wr : World) : Prop :=
  ∃ (j : Nat) (r : Int), a = .int .i64 r ∧ Hid (Val.rm u j = r) ∧ Hid (∀ i, i < j → 1 ≤ Val.rm u i) ∧ wr.ownsRow (w.heap.size + 1) 49 4 l j (rowOf (Val.upto (prt u n e) j)) ∧ V4 b d n e w.heap.size wr ∧ Below w.heap.size w wr

set_option maxRecDepth 100000 in
set_option maxHeartbeats 4000000 in
theorem fill_any (b d n e u : Int) (w : World) (hR : Vars w) (u1 : 1 ≤ u) (u2 : u ≤ 7168) :
    Calls Tryd.prog 59 #[vl b d n e, .int .i64 u] w (FillPost u n e w) := by
  obtain ⟨i0, hi, hz0, hz1, hz2⟩ := info_parts infoV
  have hB0 : Below w.heap.size w w := Below.refl _ _
  go_enter Tryd.func59, Tryd.ntmps59
  go_wp2_with fail
  have hs1 : Below w.heap.size w (w.alloc (.cells #[.int .i64 b, .int .i64 d, .int .i64 n, .int .i64 e] 49)) := by repeat (first | exact Below.refl _ _ | refine Below.alloc ?_ (by simp <;> omega) _)
  have c_k_0 : (w.alloc (.cells #[.int .i64 b, .int .i64 d, .int .i64 n, .int .i64 e] 49)).cell? ⟨w.heap.size, 0, none⟩ = some (.int .i64 b) := by go_simp
  have c_k_1 : (w.alloc (.cells #[.int .i64 b, .int .i64 d, .int .i64 n, .int .i64 e] 49)).cell? ⟨w.heap.size, 1, none⟩ = some (.int .i64 d) := by go_simp
  have c_k_2 : (w.alloc (.cells #[.int .i64 b, .int .i64 d, .int .i64 n, .int .i64 e] 49)).cell? ⟨w.heap.size, 2, none⟩ = some (.int .i64 n) := by go_simp
  have c_k_3 : (w.alloc (.cells #[.int .i64 b, .int .i64 d, .int .i64 n, .int .i64 e] 49)).cell? ⟨w.heap.size, 3, none⟩ = some (.int .i64 e) := by go_simp
  have hB1 := below_two hB0 hs1
  clear hB0 hs1
  generalize (w.alloc (.cells #[.int .i64 b, .int .i64 d, .int .i64 n, .int .i64 e] 49)) = w1 at *
  have z_k := World.block_lt_of_cell? _ _ c_k_0
  have hK : V4 b d n e w.heap.size w1 := ⟨c_k_0, c_k_1, c_k_2, c_k_3⟩
  clear c_k_0 c_k_1 c_k_2 c_k_3
  go_loopw [1, 5] (fun a l wr => FillRel u b d n e w a l wr) (fun a _ _ => (intOf a).toNat)
  case atStart => exact ⟨0, u, rfl, Lib.hid rfl, Lib.hid (fun i hi => by omega), own_nil _ _ _ _, hK, hB1⟩
  case round =>
    clear hK hB1 z_k
    obtain ⟨j, r, rfl, HR, HP, hown, hK, hB⟩ := hrel
    obtain ⟨hn0, hnu⟩ := Val.rm_nonneg (u := u) (by omega) HP.out
    rw [HR.out] at hn0 hnu
    by_cases hr : 0 < r
    · obtain ⟨k0, k1, k2, k3⟩ := hK
      go_wp2_with fail
      refine (fit_any b d n e r _ (hR.below hB) (by omega)).mono ?_
      rintro ed w4 ⟨rfl, hb⟩
      replace k0 := cell_later hb k0
      replace k1 := cell_later hb k1
      replace k2 := cell_later hb k2
      replace k3 := cell_later hb k3
      replace hown := own_later hown hb
      replace hB := below_two hB hb
      clear hb
      have hU := (Val.fitK_lt (m := r) (by omega)).2
      have HQ : Hid (prt u n e j = (Val.gB r, Val.gT r, n, e)) := Lib.hid (by unfold prt; rw [HR.out])
      have HG : Hid (Val.rm u (j + 1) = r - Val.gU r) := Lib.hid (by show Val.rm u j - Val.gU (Val.rm u j) = _; rw [HR.out])
      generalize Val.gB r = x at *
      generalize Val.gT r = y at *
      generalize Val.gU r = g at *
      obtain ⟨g1, g2, -⟩ := hU
      have HOW := Lib.hid hown
      have HK := Lib.hid (V4.mk k0 k1 k2 k3)
      have HB := Lib.hid hB
      have zK := World.block_lt_of_cell? _ _ k0
      clear hown hB k0 k1 k2 k3
      go_wp2_with (first
        | (at_builtin; refine wpList_append_own _ rfl _ _ 98 rfl (w.heap.size + 1) 49 i0 (.agg #[.int .i64 0, .int .i64 0, .int .i64 0, .int .i64 0]) 4 32 Tryd.underlying98 hi hz0 hz1 hz2 rfl (by decide) _ _ _ rfl ((HOW.out.alloc _).alloc _) ⟨w4.heap.size + 1, 0, none⟩ 1 1 [.int .i64 x, .int .i64 y, .int .i64 n, .int .i64 e] rfl rfl ?c1 ?c2 ?c3 ?c4 ?c5 ?_)
        | fail)
      case c1 => exact cells4_new _ _ _ _ _ _ (by simp)
      case c2 => intro u hu; simp at hu; rcases hu with rfl | rfl | rfl | rfl <;> rfl
      case c3 => unfold maxLen; omega
      case c4 => omega
      case c5 => simp; omega
      · intro v' w5 hown5 hgrow _
        have hb5 : Below (w.heap.size + 1) ((w4.alloc (.cells #[.int .i64 x, .int .i64 y, .int .i64 n, .int .i64 e] 49)).alloc (.cells #[.int .i64 x, .int .i64 y, .int .i64 n, .int .i64 e] 49)) w5 := (Below.refl _ _).grown hgrow (by simp; omega) (fun k hk => (HOW.out.lt k hk).1)
        have k5a := (hb5.cell (p := ⟨w.heap.size, 0, none⟩) (by simp)).trans (alloc_cell (alloc_cell HK.out.k0))
        have k5b := (hb5.cell (p := ⟨w.heap.size, 1, none⟩) (by simp)).trans (alloc_cell (alloc_cell HK.out.k1))
        have k5c := (hb5.cell (p := ⟨w.heap.size, 2, none⟩) (by simp)).trans (alloc_cell (alloc_cell HK.out.k2))
        have k5d := (hb5.cell (p := ⟨w.heap.size, 3, none⟩) (by simp)).trans (alloc_cell (alloc_cell HK.out.k3))
        have hB5 : Below w.heap.size w w5 := (alloc_below (alloc_below HB.out)).trans (hb5.mono (by omega))
        have HOWN : Hid (w5.ownsRow (w.heap.size + 1) 49 4 v' (j + 1) (rowOf (Val.upto (prt u n e) (j + 1)))) := Lib.hid (by rw [Val.upto_succ, rowOf_append, HQ.out]; exact hown5)
        have HK5 := Lib.hid (V4.mk k5a k5b k5c k5d)
        have HB5 := Lib.hid hB5
        clear hb5 hown5 hgrow hB5 k5a k5b k5c k5d HOW HK HB
        have HP2 : Hid (∀ i, i < j + 1 → 1 ≤ Val.rm u i) := Lib.hid (fun i hi => by by_cases e : i = j; (rw [e, HR.out]; omega); exact HP.out i (by omega))
        go_wp2
        go_roundw
        case rel => exact ⟨j + 1, r - g, rfl, Lib.hid HG.out, HP2, HOWN.out, HK5.out, HB5.out⟩
        case measure => simp [intOf]; omega
    · obtain rfl : r = 0 := by omega
      have HOW := Lib.hid hown
      clear hown
      have HJ : Hid (1 ≤ j) := Lib.hid (by
        rcases Nat.eq_zero_or_pos j with h | h
        · subst h; have := HR.out; simp only [Val.rm] at this; omega
        · exact h)
      go_wp2
      go_ret
      exact ⟨⟨_, j, rfl, ⟨HR.out, HP.out⟩, HJ.out, row_of HJ.out HOW.out⟩, hB⟩

set_option maxRecDepth 100000 in
set_option maxHeartbeats 4000000 in
theorem split_no1 (x y : Int) (w : World) (hR : Vars w) (h : Rat.right x y = false) :
    Calls Tryd.prog 37 #[rt x y] w fun ed w' => ed = .returned (.tuple #[.slice none 0 0, .int .i64 41]) ∧ Below w.heap.size w w' := by
  have hB0 : Below w.heap.size w w := Below.refl _ _
  go_enter Tryd.func37, Tryd.ntmps37
  go_wp2_with fail
  have hR' := hR.below ((hB0.alloc hB0.size (.cells #[.int .i64 x, .int .i64 y] 36)).alloc (hB0.alloc hB0.size (.cells #[.int .i64 x, .int .i64 y] 36)).size (.cells #[.int .i64 64, .int .i64 1] 36))
  refine (ratio_right x y _).mono ?_
  rintro e w1 ⟨rfl, hb1⟩
  clear hR'
  have hs1 : Below w.heap.size w w1 := Below.trans (by repeat (first | exact Below.refl _ _ | refine Below.alloc ?_ (by simp <;> omega) _)) (hb1.mono (by simp <;> omega))
  have c_l_0 : w1.cell? ⟨w.heap.size, 0, none⟩ = some (.int .i64 x) := (hb1.cell (by simp <;> omega)).trans (by go_simp)
  have c_l_1 : w1.cell? ⟨w.heap.size, 1, none⟩ = some (.int .i64 y) := (hb1.cell (by simp <;> omega)).trans (by go_simp)
  have c_m_0 : w1.cell? ⟨w.heap.size + 1, 0, none⟩ = some (.int .i64 64) := (hb1.cell (by simp <;> omega)).trans (by go_simp)
  have c_m_1 : w1.cell? ⟨w.heap.size + 1, 1, none⟩ = some (.int .i64 1) := (hb1.cell (by simp <;> omega)).trans (by go_simp)
  have z_l := World.block_lt_of_cell? _ _ c_l_0
  have z_m := World.block_lt_of_cell? _ _ c_m_0
  have hB1 := below_two hB0 hs1
  clear hB0 hs1 hb1
  rw [h]
  go_wp2
  go_ret2
  exact ⟨rfl, hB1⟩

set_option maxRecDepth 100000 in
set_option maxHeartbeats 4000000 in
theorem split_no2 (x y : Int) (w : World) (hR : Vars w) (h : Rat.right x y = true) (h0 : x ≤ 0) :
    Calls Tryd.prog 37 #[rt x y] w fun ed w' => ed = .returned (.tuple #[.slice none 0 0, .int .i64 41]) ∧ Below w.heap.size w w' := by
  have hB0 : Below w.heap.size w w := Below.refl _ _
  go_enter Tryd.func37, Tryd.ntmps37
  go_wp2_with fail
  have hR' := hR.below ((hB0.alloc hB0.size (.cells #[.int .i64 x, .int .i64 y] 36)).alloc (hB0.alloc hB0.size (.cells #[.int .i64 x, .int .i64 y] 36)).size (.cells #[.int .i64 64, .int .i64 1] 36))
  refine (ratio_right x y _).mono ?_
  rintro e w1 ⟨rfl, hb1⟩
  clear hR'
  have hs1 : Below w.heap.size w w1 := Below.trans (by repeat (first | exact Below.refl _ _ | refine Below.alloc ?_ (by simp <;> omega) _)) (hb1.mono (by simp <;> omega))
  have c_l_0 : w1.cell? ⟨w.heap.size, 0, none⟩ = some (.int .i64 x) := (hb1.cell (by simp <;> omega)).trans (by go_simp)
  have c_l_1 : w1.cell? ⟨w.heap.size, 1, none⟩ = some (.int .i64 y) := (hb1.cell (by simp <;> omega)).trans (by go_simp)
  have c_m_0 : w1.cell? ⟨w.heap.size + 1, 0, none⟩ = some (.int .i64 64) := (hb1.cell (by simp <;> omega)).trans (by go_simp)
  have c_m_1 : w1.cell? ⟨w.heap.size + 1, 1, none⟩ = some (.int .i64 1) := (hb1.cell (by simp <;> omega)).trans (by go_simp)
  have z_l := World.block_lt_of_cell? _ _ c_l_0
  have z_m := World.block_lt_of_cell? _ _ c_m_0
  have hB1 := below_two hB0 hs1
  clear hB0 hs1 hb1
  rw [h]
  go_wp2
  go_ret2
  exact ⟨rfl, hB1⟩

set_option maxRecDepth 100000 in
set_option maxHeartbeats 4000000 in
theorem split_no3 (x y : Int) (w : World) (hR : Vars w) (c : Int) (h : Rat.right x y = true) (h0 : ¬ x ≤ 0) (HC : Hid (∀ w, Calls Tryd.prog 16 #[rt x y, rt 64 1] w fun ed w' => ed = .returned (.int .i64 c) ∧ Below w.heap.size w w')) (hc : 0 < c) :
    Calls Tryd.prog 37 #[rt x y] w fun ed w' => ed = .returned (.tuple #[.slice none 0 0, .int .i64 41]) ∧ Below w.heap.size w w' := by
  have hB0 : Below w.heap.size w w := Below.refl _ _
  go_enter Tryd.func37, Tryd.ntmps37
  go_wp2_with fail
  have hR' := hR.below ((hB0.alloc hB0.size (.cells #[.int .i64 x, .int .i64 y] 36)).alloc (hB0.alloc hB0.size (.cells #[.int .i64 x, .int .i64 y] 36)).size (.cells #[.int .i64 64, .int .i64 1] 36))
  refine (ratio_right x y _).mono ?_
  rintro e w1 ⟨rfl, hb1⟩
  clear hR'
  have hs1 : Below w.heap.size w w1 := Below.trans (by repeat (first | exact Below.refl _ _ | refine Below.alloc ?_ (by simp <;> omega) _)) (hb1.mono (by simp <;> omega))
  have c_l_0 : w1.cell? ⟨w.heap.size, 0, none⟩ = some (.int .i64 x) := (hb1.cell (by simp <;> omega)).trans (by go_simp)
  have c_l_1 : w1.cell? ⟨w.heap.size, 1, none⟩ = some (.int .i64 y) := (hb1.cell (by simp <;> omega)).trans (by go_simp)
  have c_m_0 : w1.cell? ⟨w.heap.size + 1, 0, none⟩ = some (.int .i64 64) := (hb1.cell (by simp <;> omega)).trans (by go_simp)
  have c_m_1 : w1.cell? ⟨w.heap.size + 1, 1, none⟩ = some (.int .i64 1) := (hb1.cell (by simp <;> omega)).trans (by go_simp)
  have z_l := World.block_lt_of_cell? _ _ c_l_0
  have z_m := World.block_lt_of_cell? _ _ c_m_0
  have hB1 := below_two hB0 hs1
  clear hB0 hs1 hb1
  rw [h]
  go_wp2_with fail
  have hR' := hR.below hB1
  refine (HC.out _).mono ?_
  rintro e w2 ⟨rfl, hb2⟩
  clear hR'
  have hs2 := hb2
  replace c_l_0 := cell_later hs2 c_l_0
  replace c_l_1 := cell_later hs2 c_l_1
  replace c_m_0 := cell_later hs2 c_m_0
  replace c_m_1 := cell_later hs2 c_m_1
  clear z_l
  have z_l := World.block_lt_of_cell? _ _ c_l_0
  clear z_m
  have z_m := World.block_lt_of_cell? _ _ c_m_0
  have hB2 := below_two hB1 hs2
  clear hB1 hs2
  go_wp2
  go_ret2
  exact ⟨rfl, hB2⟩

/-- By which kind a length is split; 4: by none. -/
def Val.spK (x y : Int) : Nat := if Val.may x y then Val.kI x y else 4

/-- What Split answers. -/
def SplV (x y : Int) (W : World) (v : Value) (er : Int) : Prop :=
  (Val.spK x y = 4 ∧ er = 41 ∧ v = .slice none 0 0) ∨ (∃ i k, i < 4 ∧ Val.spK x y = i ∧ er = 0 ∧ Val.Fills (Val.uI x y i) k ∧ 1 ≤ k ∧ Row W v (prt (Val.uI x y i) (Val.kN i) (Val.kE i)) k)

theorem SplV.later {x y : Int} {W W' : World} {v : Value} {er : Int} (h : SplV x y W v er) (hb : Below W.heap.size W W') : SplV x y W' v er := by
  rcases h with h | ⟨i, k, a, b, c, d, e, f⟩
  · exact .inl h
  · exact .inr ⟨i, k, a, b, c, d, e, f.later hb⟩

def SplPost (x y : Int) (w : World) (ed : Ending) (w' : World) : Prop := (∃ v er, ed = .returned (.tuple #[v, .int .i64 er]) ∧ SplV x y w' v er) ∧ Below w.heap.size w w'

def SOut (x y : Int) (w : World) (a : Value) (wr : World) : Prop := ∃ i : Nat, a = .int .i64 (i : Int) ∧ i ≤ 4 ∧ Hid (∀ j, j < i → Val.unI x y j = false) ∧ (wr.cell? ⟨w.heap.size, 0, none⟩ = some (.int .i64 x) ∧ wr.cell? ⟨w.heap.size, 1, none⟩ = some (.int .i64 y)) ∧ Below w.heap.size w wr

theorem uI_pos {x y : Int} (h : Val.may x y = true) {i : Nat} (hi : i < 4) (hu : Val.unI x y i = true) : 1 ≤ Val.uI x y i := by
  obtain ⟨hr, h0, h64⟩ := (may_iff x y).1 h
  obtain ⟨m0, m1⟩ := mI_le hi
  have hy := hr.d1
  have hw : (x * Val.mI i) % y = 0 := of_decide_eq_true hu
  have e : Val.uI x y i * y = x * Val.mI i := Int.ediv_mul_cancel_of_emod_eq_zero hw
  have hp : 0 < x * Val.mI i := Int.mul_pos h0 (by omega)
  by_cases hz : 1 ≤ Val.uI x y i
  · exact hz
  · exfalso
    have : Val.uI x y i * y ≤ 0 := Int.mul_nonpos_of_nonpos_of_nonneg (by omega) (by omega)
    omega

set_option maxRecDepth 100000 in
set_option maxHeartbeats 4000000 in
theorem split_yes (x y : Int) (w : World) (hR : Vars w) (c : Int) (hm : Val.may x y = true) (h : Rat.right x y = true) (h0 : ¬ x ≤ 0) (HC : Hid (∀ w, Calls Tryd.prog 16 #[rt x y, rt 64 1] w fun ed w' => ed = .returned (.int .i64 c) ∧ Below w.heap.size w w')) (hc : ¬ 0 < c) :
    Calls Tryd.prog 37 #[rt x y] w (SplPost x y w) := by
  have hB0 : Below w.heap.size w w := Below.refl _ _
  go_enter Tryd.func37, Tryd.ntmps37
  go_wp2_with fail
  have hR' := hR.below ((hB0.alloc hB0.size (.cells #[.int .i64 x, .int .i64 y] 36)).alloc (hB0.alloc hB0.size (.cells #[.int .i64 x, .int .i64 y] 36)).size (.cells #[.int .i64 64, .int .i64 1] 36))
  refine (ratio_right x y _).mono ?_
  rintro e w1 ⟨rfl, hb1⟩
  clear hR'
  have hs1 : Below w.heap.size w w1 := Below.trans (by repeat (first | exact Below.refl _ _ | refine Below.alloc ?_ (by simp <;> omega) _)) (hb1.mono (by simp <;> omega))
  have c_l_0 : w1.cell? ⟨w.heap.size, 0, none⟩ = some (.int .i64 x) := (hb1.cell (by simp <;> omega)).trans (by go_simp)
  have c_l_1 : w1.cell? ⟨w.heap.size, 1, none⟩ = some (.int .i64 y) := (hb1.cell (by simp <;> omega)).trans (by go_simp)
  have c_m_0 : w1.cell? ⟨w.heap.size + 1, 0, none⟩ = some (.int .i64 64) := (hb1.cell (by simp <;> omega)).trans (by go_simp)
  have c_m_1 : w1.cell? ⟨w.heap.size + 1, 1, none⟩ = some (.int .i64 1) := (hb1.cell (by simp <;> omega)).trans (by go_simp)
  have z_l := World.block_lt_of_cell? _ _ c_l_0
  have z_m := World.block_lt_of_cell? _ _ c_m_0
  have hB1 := below_two hB0 hs1
  clear hB0 hs1 hb1
  rw [h]
  go_wp2_with fail
  have hR' := hR.below hB1
  refine (HC.out _).mono ?_
  rintro e w2 ⟨rfl, hb2⟩
  clear hR'
  have hs2 := hb2
  clear c_m_0
  clear c_m_1
  replace c_l_0 := cell_later hs2 c_l_0
  replace c_l_1 := cell_later hs2 c_l_1
  clear z_l
  have z_l := World.block_lt_of_cell? _ _ c_l_0
  clear z_m
  have hB2 := below_two hB1 hs2
  clear hB1 hs2
  have hR2 := hR.below hB2
  have k0 := hR2.kind 0 (by decide)
  have k1 := hR2.kind 1 (by decide)
  have k2 := hR2.kind 2 (by decide)
  have k3 := hR2.kind 3 (by decide)
  have k4 := hR2.kind 4 (by decide)
  have k5 := hR2.kind 5 (by decide)
  have k6 := hR2.kind 6 (by decide)
  have k7 := hR2.kind 7 (by decide)
  have k8 := hR2.kind 8 (by decide)
  have k9 := hR2.kind 9 (by decide)
  have k10 := hR2.kind 10 (by decide)
  have k11 := hR2.kind 11 (by decide)
  have k12 := hR2.kind 12 (by decide)
  have k13 := hR2.kind 13 (by decide)
  have k14 := hR2.kind 14 (by decide)
  have k15 := hR2.kind 15 (by decide)
  simp only [List.getD_cons_zero, List.getD_cons_succ] at k0 k1 k2 k3 k4 k5 k6 k7 k8 k9 k10 k11 k12 k13 k14 k15
  have zg := World.block_lt_of_cell? _ _ k0
  simp only at zg
  clear hR2
  go_wp2
  go_loopw [25] (fun a wr => SOut x y w a wr) (fun a _ => (4 - intOf a).toNat)
  case atStart => exact ⟨0, rfl, by omega, Lib.hid (fun j hj => by omega), ⟨c_l_0, c_l_1⟩, hB2⟩
  case round =>
    clear c_l_0 c_l_1 z_l hB2 hb2 k0 k1 k2 k3 k4 k5 k6 k7 k8 k9 k10 k11 k12 k13 k14 k15
    obtain ⟨i, rfl, hi, HN, ⟨l0, l1⟩, hB⟩ := hrel
    by_cases hp : i < 4
    · have hx := index_kinds hp
      obtain ⟨p, hpu, hcall⟩ := units_any hm hp
      have HU := Lib.hid hpu
      have HCA := Lib.hid hcall
      clear hpu hcall
      obtain ⟨n, HKN⟩ : ∃ n, Hid (Val.kN i = n) := ⟨_, Lib.hid rfl⟩
      obtain ⟨e, HKE⟩ : ∃ e, Hid (Val.kE i = e) := ⟨_, Lib.hid rfl⟩
      rw [HKN.out, HKE.out] at hx
      have zl := World.block_lt_of_cell? _ _ l0
      go_wp2_with fail
      have hK := V4.new wr 0 0 n e 49
      have l0' := alloc_cell (o := .cells #[.int .i64 0, .int .i64 0, .int .i64 n, .int .i64 e] 49) l0
      have l1' := alloc_cell (o := .cells #[.int .i64 0, .int .i64 0, .int .i64 n, .int .i64 e] 49) l1
      have hB' := alloc_below (o := .cells #[.int .i64 0, .int .i64 0, .int .i64 n, .int .i64 e] 49) hB
      clear l0 l1 hB zl
      have hcall := HCA.out
      rw [HKN.out, HKE.out] at hcall
      cases hu : Val.unI x y i with
      | true =>
        rw [hu, HU.out hu] at hcall
        refine (hcall _).mono ?_
        rintro ed w4 ⟨rfl, hb4⟩
        replace hK := hK.later hb4
        replace hB' := below_two hB' hb4
        clear hb4 hcall l0' l1' HCA
        have hu1 := uI_pos hm hp hu
        have hu2 := (unit_le hm hp).2
        obtain ⟨U, HUU⟩ : ∃ U, Hid (Val.uI x y i = U) := ⟨_, Lib.hid rfl⟩
        rw [HUU.out] at hu1 hu2 ⊢
        obtain ⟨k0, k1, k2, k3⟩ := hK
        go_wp2_with fail
        refine (fill_any 0 0 n e U _ (hR.below hB') hu1 hu2).mono ?_
        rintro ed w5 ⟨⟨v, k, rfl, hF, hk1, hrow⟩, hb5⟩
        have HV : Hid (SplV x y w5 v 0) := Lib.hid (.inr ⟨i, k, hp, by unfold Val.spK; rw [hm, if_pos rfl]; exact Val.fst_found hp HN.out hu, rfl, by rw [HUU.out]; exact hF, hk1, by rw [HUU.out, HKN.out, HKE.out]; exact hrow⟩)
        have hB5 := below_two hB' hb5
        clear k0 k1 k2 k3 hb5 hF hrow hB' hx
        go_wp2
        refine bodyPost_ret (v := .tuple #[v, .int .i64 0]) (by simp [results, Tryd.results37, go_sem]) rfl ⟨⟨_, _, rfl, HV.out⟩, hB5⟩
      | false =>
        rw [hu] at hcall
        refine (hcall _).mono ?_
        rintro ed w4 ⟨rfl, hb4⟩
        have l0 := cell_later hb4 l0'
        have l1 := cell_later hb4 l1'
        have hB := below_two hB' hb4
        clear hb4 hcall l0' l1' HCA hK hB'
        go_wp2
        go_roundw
        case rel => exact ⟨i + 1, by go_num, by omega, Lib.hid (fun j hj => by by_cases e : j = i; (rw [e]; exact hu); exact HN.out j (by omega)), ⟨l0, l1⟩, hB⟩
        case measure => simp [intOf]; omega
    · obtain rfl : i = 4 := by omega
      have HV : Hid (∀ W, SplV x y W (.slice none 0 0) 41) := Lib.hid (fun W => .inl ⟨by unfold Val.spK; rw [hm, if_pos rfl]; exact Val.fst_none HN.out, rfl, rfl⟩)
      go_wp2
      refine bodyPost_ret (v := .tuple #[.slice none 0 0, .int .i64 41]) (by simp [results, Tryd.results37, go_sem]) rfl ⟨⟨_, _, rfl, HV.out _⟩, hB⟩

theorem cmp64 {x y : Int} (h : Rat.right x y = true) (w : World) : Calls Tryd.prog 16 #[rt x y, rt 64 1] w fun ed w' => ed = .returned (.int .i64 (Rat.sgn (x - 64 * y))) ∧ Below w.heap.size w w' := by
  have := rt_compare_any x y 64 1 w
  rw [h, show Rat.right 64 1 = true by decide +kernel, Int.mul_one] at this
  exact this

theorem split_any (x y : Int) (w : World) (hR : Vars w) : Calls Tryd.prog 37 #[rt x y] w (SplPost x y w) := by
  have no : Val.may x y = false → ∀ W, SplV x y W (.slice none 0 0) 41 := fun h W => .inl ⟨by unfold Val.spK; rw [h]; rfl, rfl, rfl⟩
  cases h : Rat.right x y
  · exact (split_no1 x y w hR h).mono fun ed w' ⟨he, hb⟩ => ⟨⟨_, _, he, no (by unfold Val.may; rw [h]; rfl) _⟩, hb⟩
  · by_cases h0 : x ≤ 0
    · exact (split_no2 x y w hR h h0).mono fun ed w' ⟨he, hb⟩ => ⟨⟨_, _, he, no (by unfold Val.may; rw [h, show decide (0 < x) = false from decide_eq_false (by omega)]; rfl) _⟩, hb⟩
    · rcases sgn_cases (x - 64 * y) with ⟨a, b⟩ | ⟨a, b⟩ | ⟨a, b⟩
      · exact split_yes x y w hR _ (by unfold Val.may; rw [h, decide_eq_true (show 0 < x by omega), decide_eq_true (show x ≤ 64 * y by omega)]; rfl) h h0 (Lib.hid (cmp64 h)) (by omega)
      · exact split_yes x y w hR _ (by unfold Val.may; rw [h, decide_eq_true (show 0 < x by omega), decide_eq_true (show x ≤ 64 * y by omega)]; rfl) h h0 (Lib.hid (cmp64 h)) (by omega)
      · exact (split_no3 x y w hR _ h h0 (Lib.hid (cmp64 h)) (by omega)).mono fun ed w' ⟨he, hb⟩ => ⟨⟨_, _, he, no (by unfold Val.may; rw [h, show decide (x ≤ 64 * y) = false from decide_eq_false (by omega)]; simp) _⟩, hb⟩

theorem fills_exists : ∀ (n : Nat) (u : Int), 0 ≤ u → u ≤ n → ∃ k, Val.Fills u k := by
  intro n
  induction n with
  | zero => intro u h0 h1; exact ⟨0, by simp only [Val.rm]; omega, fun j hj => by omega⟩
  | succ n ih =>
    intro u h0 h1
    by_cases hu : u = 0
    · exact ⟨0, by simp only [Val.rm]; omega, fun j hj => by omega⟩
    · obtain ⟨_, a, b, _⟩ := Val.fitK_lt (m := u) (by omega)
      have e : Val.rm u 1 = u - Val.gU u := rfl
      obtain ⟨k, h2, h3⟩ := ih (Val.rm u 1) (by omega) (by omega)
      refine ⟨k + 1, by rw [Val.rm_shift]; exact h2, fun j hj => ?_⟩
      cases j with
      | zero => simp only [Val.rm]; omega
      | succ j => rw [Val.rm_shift]; exact h3 j (by omega)

theorem fills_pos {u : Int} (hu : 1 ≤ u) {k : Nat} (h : Val.Fills u k) : 1 ≤ k := by
  rcases Nat.eq_zero_or_pos k with e | e
  · subst e; have := h.1; simp only [Val.rm] at this; omega
  · exact e

/-- What is split by a kind: the contract, with the row's length fixed ahead. -/
theorem split_kind {x y : Int} {i : Nat} (hi : i < 4) (h : Val.spK x y = i) {k : Nat} (hk : Val.Fills (Val.uI x y i) k) (w : World) (hR : Vars w) :
    Calls Tryd.prog 37 #[rt x y] w fun ed w' => (∃ v, ed = .returned (.tuple #[v, .int .i64 0]) ∧ Row w' v (prt (Val.uI x y i) (Val.kN i) (Val.kE i)) k) ∧ Below w.heap.size w w' := by
  refine (split_any x y w hR).mono ?_
  rintro ed w' ⟨⟨v, er, rfl, hs⟩, hb⟩
  rcases hs with ⟨h', _⟩ | ⟨i', k', hi', h', rfl, hf, _, hr⟩
  · omega
  · obtain rfl : i' = i := by omega
    obtain rfl := hf.unique hk
    exact ⟨⟨v, rfl, hr⟩, hb⟩
end Go.Proofs.YtobhmiknlbjmkaaDoor.Spl
