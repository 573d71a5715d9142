/-
  The contracts of value.units and value.fit.
-/
import Derived.Test.YtejiifkenanodaaGreatDoorValD
namespace Go.Proofs.YtejiifkenanodaaGreatDoor
open Go.RowKit

set_option maxRecDepth 100000 in
set_option maxHeartbeats 4000000 in
theorem units_yes (x y n e t u p M P D E : Int) (w : World) (HT : Hid (Val.tn n = t ∧ Val.te n e = u)) (ht : IntKind.i64.wrap (64 * t) = p) (ip : Rat.I64 p) (iu : Rat.I64 u) (HO : Hid (Rat.ofN p u = M ∧ Rat.ofD p u = 1 ∧ Rat.ofE p u = 0)) (HM : Hid (∀ w, Calls Tryz.prog 25 #[rt x y, rt M 1] w fun ed w' => ed = .returned (rv P D E) ∧ Below w.heap.size w w')) (hE : (E == 0) = true) :
    Calls Tryz.prog 58 #[rt x y, vl 0 0 n e] w fun ed w' => ed = .returned (.tuple #[.int .i64 P, .bool (D == 1)]) ∧ Below w.heap.size w w' := by
  have hB0 : Below w.heap.size w w := Below.refl _ _
  go_enter Tryz.func58, Tryz.ntmps58
  go_wp2_with fail
  refine (tuplet_any 0 0 n e _).mono ?_
  rintro e w1 ⟨rfl, hb1⟩
  have hs1 : Below w.heap.size w w1 := Below.trans (by repeat (first | exact Below.refl _ _ | refine Below.alloc ?_ (by simp <;> omega) _)) (hb1.mono (by simp <;> omega))
  have c_l_0 : w1.cell? ⟨w.heap.size, 0, none⟩ = some (.int .i64 x) := (hb1.cell (by simp <;> omega)).trans (by go_simp)
  have c_l_1 : w1.cell? ⟨w.heap.size, 1, none⟩ = some (.int .i64 y) := (hb1.cell (by simp <;> omega)).trans (by go_simp)
  have z_l := World.block_lt_of_cell? _ _ c_l_0
  have hB1 := below_two hB0 hs1
  clear hB0 hs1 hb1
  rw [HT.out.1, HT.out.2]
  go_wp2_with fail
  refine (of_any _ _ _ ip iu).mono ?_
  rintro e w2 ⟨rfl, hb2⟩
  have hs2 := hb2
  replace c_l_0 := cell_later hs2 c_l_0
  replace c_l_1 := cell_later hs2 c_l_1
  clear z_l
  have z_l := World.block_lt_of_cell? _ _ c_l_0
  have hB2 := below_two hB1 hs2
  clear hB1 hs2
  rw [HO.out.1, HO.out.2.1, HO.out.2.2]
  go_wp2_with fail
  refine (HM.out _).mono ?_
  rintro e w3 ⟨rfl, hb3⟩
  have hs3 : Below w2.heap.size w2 w3 := Below.trans (by repeat (first | exact Below.refl _ _ | refine Below.alloc ?_ (by simp <;> omega) _)) (hb3.mono (by simp <;> omega))
  clear c_l_0
  clear c_l_1
  clear z_l
  have hB3 := below_two hB2 hs3
  clear hB2 hs3 hb3
  go_wp2_with fail
  go_quiet (fail)
  go_wp2
  go_ret2
  exact ⟨rfl, (by first | exact below_drewN (alloc_below hB3) _ | exact alloc_below (below_drewN hB3 _))⟩

set_option maxRecDepth 100000 in
set_option maxHeartbeats 4000000 in
theorem units_no (x y n e t u p M P D E : Int) (w : World) (HT : Hid (Val.tn n = t ∧ Val.te n e = u)) (ht : IntKind.i64.wrap (64 * t) = p) (ip : Rat.I64 p) (iu : Rat.I64 u) (HO : Hid (Rat.ofN p u = M ∧ Rat.ofD p u = 1 ∧ Rat.ofE p u = 0)) (HM : Hid (∀ w, Calls Tryz.prog 25 #[rt x y, rt M 1] w fun ed w' => ed = .returned (rv P D E) ∧ Below w.heap.size w w')) (hE : (E == 0) = false) :
    Calls Tryz.prog 58 #[rt x y, vl 0 0 n e] w fun ed w' => ed = .returned (.tuple #[.int .i64 P, .bool false]) ∧ Below w.heap.size w w' := by
  have hB0 : Below w.heap.size w w := Below.refl _ _
  go_enter Tryz.func58, Tryz.ntmps58
  go_wp2_with fail
  refine (tuplet_any 0 0 n e _).mono ?_
  rintro e w1 ⟨rfl, hb1⟩
  have hs1 : Below w.heap.size w w1 := Below.trans (by repeat (first | exact Below.refl _ _ | refine Below.alloc ?_ (by simp <;> omega) _)) (hb1.mono (by simp <;> omega))
  have c_l_0 : w1.cell? ⟨w.heap.size, 0, none⟩ = some (.int .i64 x) := (hb1.cell (by simp <;> omega)).trans (by go_simp)
  have c_l_1 : w1.cell? ⟨w.heap.size, 1, none⟩ = some (.int .i64 y) := (hb1.cell (by simp <;> omega)).trans (by go_simp)
  have z_l := World.block_lt_of_cell? _ _ c_l_0
  have hB1 := below_two hB0 hs1
  clear hB0 hs1 hb1
  rw [HT.out.1, HT.out.2]
  go_wp2_with fail
  refine (of_any _ _ _ ip iu).mono ?_
  rintro e w2 ⟨rfl, hb2⟩
  have hs2 := hb2
  replace c_l_0 := cell_later hs2 c_l_0
  replace c_l_1 := cell_later hs2 c_l_1
  clear z_l
  have z_l := World.block_lt_of_cell? _ _ c_l_0
  have hB2 := below_two hB1 hs2
  clear hB1 hs2
  rw [HO.out.1, HO.out.2.1, HO.out.2.2]
  go_wp2_with fail
  refine (HM.out _).mono ?_
  rintro e w3 ⟨rfl, hb3⟩
  have hs3 : Below w2.heap.size w2 w3 := Below.trans (by repeat (first | exact Below.refl _ _ | refine Below.alloc ?_ (by simp <;> omega) _)) (hb3.mono (by simp <;> omega))
  clear c_l_0
  clear c_l_1
  clear z_l
  have hB3 := below_two hB2 hs3
  clear hB2 hs3 hb3
  go_wp2_with fail
  go_quiet (fail)
  go_wp2
  go_ret2
  exact ⟨rfl, (by first | exact below_drewN (alloc_below hB3) _ | exact alloc_below (below_drewN hB3 _))⟩

/-- The kinds' units, in Of's terms. -/
theorem unit_of {i : Nat} (hi : i < 4) : Rat.ofN (64 * Val.tn (Val.kN i)) (Val.te (Val.kN i) (Val.kE i)) = Val.mI i ∧ Rat.ofD (64 * Val.tn (Val.kN i)) (Val.te (Val.kN i) (Val.kE i)) = 1 ∧ Rat.ofE (64 * Val.tn (Val.kN i)) (Val.te (Val.kN i) (Val.kE i)) = 0 := by
  have key : ∀ i : Fin 4, Rat.ofN (64 * Val.tn (Val.kN i.val)) (Val.te (Val.kN i.val) (Val.kE i.val)) = Val.mI i.val ∧ Rat.ofD (64 * Val.tn (Val.kN i.val)) (Val.te (Val.kN i.val) (Val.kE i.val)) = 1 ∧ Rat.ofE (64 * Val.tn (Val.kN i.val)) (Val.te (Val.kN i.val) (Val.kE i.val)) = 0 := by decide +kernel
  exact key ⟨i, hi⟩
theorem kunit_right {i : Nat} (hi : i < 4) : Rat.right (Val.mI i) 1 = true := by
  have key : ∀ i : Fin 4, Rat.right (Val.mI i.val) 1 = true := by decide +kernel
  exact key ⟨i, hi⟩
theorem mI_le {i : Nat} (hi : i < 4) : 64 ≤ Val.mI i ∧ Val.mI i ≤ 112 := by
  rcases Val.mI_cases hi with ⟨_, h, _⟩ | ⟨_, h, _⟩ | ⟨_, h, _⟩ | ⟨_, h, _⟩ <;> rw [h] <;> decide
theorem may_iff (x y : Int) : Val.may x y = true ↔ Rat.IsRight x y ∧ 0 < x ∧ x ≤ 64 * y := by
  unfold Val.may
  rw [Bool.and_eq_true, Bool.and_eq_true, Rat.right_iff, decide_eq_true_iff, decide_eq_true_iff]
theorem unit_le {x y : Int} (h : Val.may x y = true) {i : Nat} (hi : i < 4) : 0 ≤ Val.uI x y i ∧ Val.uI x y i ≤ 7168 := by
  obtain ⟨hr, h0, h64⟩ := (may_iff x y).1 h
  obtain ⟨m0, m1⟩ := mI_le hi
  have hy := hr.d1
  have h1 : x * Val.mI i ≤ x * 112 := Int.mul_le_mul_of_nonneg_left m1 (by omega)
  have h2 : 0 ≤ x * Val.mI i := Int.mul_nonneg (by omega) (by omega)
  unfold Val.uI
  refine ⟨Int.ediv_nonneg h2 (by omega), ?_⟩
  exact Int.le_of_lt_add_one (Int.ediv_lt_of_lt_mul (by omega) (by omega))
theorem unit_is {x y : Int} (h : Val.may x y = true) {i : Nat} (hi : i < 4) :
    (Val.unI x y i = true ∧ Rat.ofE (x * Val.mI i) (y * 1) = 0 ∧ Rat.ofN (x * Val.mI i) (y * 1) = Val.uI x y i ∧ Rat.ofD (x * Val.mI i) (y * 1) = 1) ∨ (Val.unI x y i = false ∧ (Rat.ofE (x * Val.mI i) (y * 1) ≠ 0 ∨ Rat.ofD (x * Val.mI i) (y * 1) ≠ 1)) := by
  obtain ⟨u0, u1⟩ := unit_le h hi
  obtain ⟨hr, h0, h64⟩ := (may_iff x y).1 h
  have hy := hr.d1
  have hM := Rat.M_eq
  rw [Int.mul_one]
  by_cases hw : (x * Val.mI i) % y = 0
  · left
    refine ⟨by unfold Val.unI; exact decide_eq_true hw, ?_⟩
    have e : Val.uI x y i * y = x * Val.mI i := by unfold Val.uI; exact Int.ediv_mul_cancel_of_emod_eq_zero hw
    exact Rat.of_complete (by omega) ⟨by omega, by omega, by omega, by omega, by simp⟩ (by rw [e]; omega)
  · right
    refine ⟨by unfold Val.unI; exact decide_eq_false hw, ?_⟩
    by_cases hE : Rat.ofE (x * Val.mI i) y = 0
    · right
      intro hD
      have := (Rat.of_sound hE).2.1
      rw [hD, Int.mul_one] at this
      exact hw (by rw [← this]; exact Int.mul_emod_left _ _)
    · exact .inl hE
/-- What units answers for a kind. -/
theorem units_any {x y : Int} (h : Val.may x y = true) {i : Nat} (hi : i < 4) :
    ∃ p : Int, (Val.unI x y i = true → p = Val.uI x y i) ∧ ∀ w, Calls Tryz.prog 58 #[rt x y, vl 0 0 (Val.kN i) (Val.kE i)] w fun ed w' => ed = .returned (.tuple #[.int .i64 p, .bool (Val.unI x y i)]) ∧ Below w.heap.size w w' := by
  have hk := Val.mI_cases hi
  have hr := ((may_iff x y).1 h).1
  have ht : 1 ≤ Val.tn (Val.kN i) ∧ Val.tn (Val.kN i) ≤ 7 ∧ 1 ≤ Val.te (Val.kN i) (Val.kE i) ∧ Val.te (Val.kN i) (Val.kE i) ≤ 4 := by
    have key : ∀ i : Fin 4, 1 ≤ Val.tn (Val.kN i.val) ∧ Val.tn (Val.kN i.val) ≤ 7 ∧ 1 ≤ Val.te (Val.kN i.val) (Val.kE i.val) ∧ Val.te (Val.kN i.val) (Val.kE i.val) ≤ 4 := by decide
    exact key ⟨i, hi⟩
  have hb : (Rat.right x y && Rat.right (Val.mI i) 1) = true := by rw [(Rat.right_iff x y).2 hr, kunit_right hi]; rfl
  have hM : Hid (∀ w, Calls Tryz.prog 25 #[rt x y, rt (Val.mI i) 1] w fun ed w' => ed = .returned (rv (Rat.ofN (x * Val.mI i) (y * 1)) (Rat.ofD (x * Val.mI i) (y * 1)) (Rat.ofE (x * Val.mI i) (y * 1))) ∧ Below w.heap.size w w') := Lib.hid (fun w => by
    have := mul_any x y (Val.mI i) 1 w
    rw [hb] at this
    exact this)
  refine ⟨Rat.ofN (x * Val.mI i) (y * 1), ?_, fun w => ?_⟩
  · intro hu
    rcases unit_is h hi with ⟨_, _, e, _⟩ | ⟨e, _⟩
    · exact e
    · rw [hu] at e; cases e
  · rcases unit_is h hi with ⟨e, e1, _, e3⟩ | ⟨e, e1⟩
    · have := units_yes x y (Val.kN i) (Val.kE i) _ _ _ _ _ _ _ w (Lib.hid ⟨rfl, rfl⟩) (IntWalk.i64_in _ (by omega)) (by unfold Rat.I64; omega) (by unfold Rat.I64; omega) (Lib.hid (unit_of hi)) hM (by rw [e1]; rfl)
      rw [e3] at this
      rw [e]
      exact this
    · by_cases hE : Rat.ofE (x * Val.mI i) (y * 1) = 0
      · have hD : (Rat.ofD (x * Val.mI i) (y * 1) == 1) = false := by
          rcases e1 with e1 | e1
          · exact absurd hE e1
          · simpa using e1
        have := units_yes x y (Val.kN i) (Val.kE i) _ _ _ _ _ _ _ w (Lib.hid ⟨rfl, rfl⟩) (IntWalk.i64_in _ (by omega)) (by unfold Rat.I64; omega) (by unfold Rat.I64; omega) (Lib.hid (unit_of hi)) hM (by rw [hE]; rfl)
        rw [hD] at this
        rw [e]
        exact this
      · rw [e]
        exact units_no x y (Val.kN i) (Val.kE i) _ _ _ _ _ _ _ w (Lib.hid ⟨rfl, rfl⟩) (IntWalk.i64_in _ (by omega)) (by unfold Rat.I64; omega) (by unfold Rat.I64; omega) (Lib.hid (unit_of hi)) hM (by simpa using hE)

def NoFit (m : Int) (k : Nat) : Prop := ∀ j, j < k → Val.fits m j = false
theorem NoFit.next {m : Int} {k : Nat} (h : NoFit m k) (hk : Val.fits m k = false) : NoFit m (k + 1) := fun j hj => by
  by_cases e : j = k
  · rw [e]; exact hk
  · exact h j (by omega)
theorem f_at {b c : Nat} (hc : c < 3) : Val.fB (3 * b + c) = (b : Int) ∧ Val.fT (3 * b + c) = 2 - (c : Int) := by
  unfold Val.fB Val.fT; omega
structure TMem (b d n e : Int) (w wr : World) : Prop where
  k : V4 b d n e w.heap.size wr
  c0 : wr.cell? ⟨w.heap.size + 1, 0, none⟩ = some (.int .i64 0)
  c1 : wr.cell? ⟨w.heap.size + 1, 1, none⟩ = some (.int .i64 0)
  c2 : wr.cell? ⟨w.heap.size + 1, 2, none⟩ = some (.int .i64 0)
  c3 : wr.cell? ⟨w.heap.size + 1, 3, none⟩ = some (.int .i64 0)
  g0 : wr.frozen? ⟨w.heap.size + 1, 0, none⟩ = false
  g1 : wr.frozen? ⟨w.heap.size + 1, 1, none⟩ = false
  g2 : wr.frozen? ⟨w.heap.size + 1, 2, none⟩ = false
  g3 : wr.frozen? ⟨w.heap.size + 1, 3, none⟩ = false
  below : Below w.heap.size w wr
theorem TMem.later {b d n e : Int} {w wr wx : World} (h : TMem b d n e w wr) (hb : Below wr.heap.size wr wx) : TMem b d n e w wx :=
  ⟨h.k.later hb, cell_later hb h.c0, cell_later hb h.c1, cell_later hb h.c2, cell_later hb h.c3, frozen_later hb h.c0 h.g0, frozen_later hb h.c1 h.g1, frozen_later hb h.c2 h.g2, frozen_later hb h.c3 h.g3, below_two h.below hb⟩
def TOut (m b d n e : Int) (w : World) (a : Value) (wr : World) : Prop := ∃ i : Nat, a = .int .i64 (i : Int) ∧ i ≤ 7 ∧ Hid (NoFit m (3 * i)) ∧ TMem b d n e w wr
def TIn (m b d n e : Int) (w : World) (i : Nat) (a : Value) (wr : World) : Prop := ∃ (c : Nat) (t : Int), a = .int .i64 t ∧ c ≤ 3 ∧ Hid (t = 2 - (c : Int)) ∧ Hid (NoFit m (3 * i + c)) ∧ TMem b d n e w wr

set_option maxRecDepth 100000 in
set_option maxHeartbeats 4000000 in
theorem fit_any (b d n e m : Int) (w : World) (hR : Vars w) (hm : 1 ≤ m) :
    Calls Tryz.prog 84 #[vl b d n e, .int .i64 m] w fun ed w' => ed = .returned (.tuple #[vl (Val.gB m) (Val.gT m) n e, .int .i64 (Val.gU m)]) ∧ Below w.heap.size w w' := by
  have zg := World.block_lt_of_cell? _ _ (hR.kind 0 (by decide))
  simp only at zg
  have hB0 : Below w.heap.size w w := Below.refl _ _
  go_enter Tryz.func84, Tryz.ntmps84
  go_wp2_with fail
  have hs1 : Below w.heap.size w ((w.alloc (.cells #[.int .i64 b, .int .i64 d, .int .i64 n, .int .i64 e] 23)).alloc (.cells #[.int .i64 0, .int .i64 0, .int .i64 0, .int .i64 0] 23)) := by repeat (first | exact Below.refl _ _ | refine Below.alloc ?_ (by simp <;> omega) _)
  have c_k_0 : ((w.alloc (.cells #[.int .i64 b, .int .i64 d, .int .i64 n, .int .i64 e] 23)).alloc (.cells #[.int .i64 0, .int .i64 0, .int .i64 0, .int .i64 0] 23)).cell? ⟨w.heap.size, 0, none⟩ = some (.int .i64 b) := by go_simp
  have c_k_1 : ((w.alloc (.cells #[.int .i64 b, .int .i64 d, .int .i64 n, .int .i64 e] 23)).alloc (.cells #[.int .i64 0, .int .i64 0, .int .i64 0, .int .i64 0] 23)).cell? ⟨w.heap.size, 1, none⟩ = some (.int .i64 d) := by go_simp
  have c_k_2 : ((w.alloc (.cells #[.int .i64 b, .int .i64 d, .int .i64 n, .int .i64 e] 23)).alloc (.cells #[.int .i64 0, .int .i64 0, .int .i64 0, .int .i64 0] 23)).cell? ⟨w.heap.size, 2, none⟩ = some (.int .i64 n) := by go_simp
  have c_k_3 : ((w.alloc (.cells #[.int .i64 b, .int .i64 d, .int .i64 n, .int .i64 e] 23)).alloc (.cells #[.int .i64 0, .int .i64 0, .int .i64 0, .int .i64 0] 23)).cell? ⟨w.heap.size, 3, none⟩ = some (.int .i64 e) := by go_simp
  have c_r_0 : ((w.alloc (.cells #[.int .i64 b, .int .i64 d, .int .i64 n, .int .i64 e] 23)).alloc (.cells #[.int .i64 0, .int .i64 0, .int .i64 0, .int .i64 0] 23)).cell? ⟨w.heap.size + 1, 0, none⟩ = some (.int .i64 0) := by go_simp
  have f_r_0 : ((w.alloc (.cells #[.int .i64 b, .int .i64 d, .int .i64 n, .int .i64 e] 23)).alloc (.cells #[.int .i64 0, .int .i64 0, .int .i64 0, .int .i64 0] 23)).frozen? ⟨w.heap.size + 1, 0, none⟩ = false := by go_simp
  have c_r_1 : ((w.alloc (.cells #[.int .i64 b, .int .i64 d, .int .i64 n, .int .i64 e] 23)).alloc (.cells #[.int .i64 0, .int .i64 0, .int .i64 0, .int .i64 0] 23)).cell? ⟨w.heap.size + 1, 1, none⟩ = some (.int .i64 0) := by go_simp
  have f_r_1 : ((w.alloc (.cells #[.int .i64 b, .int .i64 d, .int .i64 n, .int .i64 e] 23)).alloc (.cells #[.int .i64 0, .int .i64 0, .int .i64 0, .int .i64 0] 23)).frozen? ⟨w.heap.size + 1, 1, none⟩ = false := by go_simp
  have c_r_2 : ((w.alloc (.cells #[.int .i64 b, .int .i64 d, .int .i64 n, .int .i64 e] 23)).alloc (.cells #[.int .i64 0, .int .i64 0, .int .i64 0, .int .i64 0] 23)).cell? ⟨w.heap.size + 1, 2, none⟩ = some (.int .i64 0) := by go_simp
  have f_r_2 : ((w.alloc (.cells #[.int .i64 b, .int .i64 d, .int .i64 n, .int .i64 e] 23)).alloc (.cells #[.int .i64 0, .int .i64 0, .int .i64 0, .int .i64 0] 23)).frozen? ⟨w.heap.size + 1, 2, none⟩ = false := by go_simp
  have c_r_3 : ((w.alloc (.cells #[.int .i64 b, .int .i64 d, .int .i64 n, .int .i64 e] 23)).alloc (.cells #[.int .i64 0, .int .i64 0, .int .i64 0, .int .i64 0] 23)).cell? ⟨w.heap.size + 1, 3, none⟩ = some (.int .i64 0) := by go_simp
  have f_r_3 : ((w.alloc (.cells #[.int .i64 b, .int .i64 d, .int .i64 n, .int .i64 e] 23)).alloc (.cells #[.int .i64 0, .int .i64 0, .int .i64 0, .int .i64 0] 23)).frozen? ⟨w.heap.size + 1, 3, none⟩ = false := by go_simp
  have hB1 := below_two hB0 hs1
  clear hB0 hs1
  generalize ((w.alloc (.cells #[.int .i64 b, .int .i64 d, .int .i64 n, .int .i64 e] 23)).alloc (.cells #[.int .i64 0, .int .i64 0, .int .i64 0, .int .i64 0] 23)) = w1 at *
  have z_k := World.block_lt_of_cell? _ _ c_k_0
  have z_r := World.block_lt_of_cell? _ _ c_r_0
  have hM : TMem b d n e w w1 := ⟨⟨c_k_0, c_k_1, c_k_2, c_k_3⟩, c_r_0, c_r_1, c_r_2, c_r_3, f_r_0, f_r_1, f_r_2, f_r_3, hB1⟩
  clear c_k_0 c_k_1 c_k_2 c_k_3 c_r_0 c_r_1 c_r_2 c_r_3 f_r_0 f_r_1 f_r_2 f_r_3 hB1 z_k z_r
  go_loopw [9] (fun a wr => TOut m b d n e w a wr) (fun a _ => (7 - intOf a).toNat)
  case atStart => exact ⟨0, rfl, by omega, Lib.hid (fun j hj => by omega), hM⟩
  case round =>
    clear hM
    obtain ⟨i, rfl, hi, HN, hM⟩ := hrel
    by_cases hp : i < 7
    · go_wp2_with fail
      go_loopw [7] (fun a wr => TIn m b d n e w i a wr) (fun a _ => (intOf a + 1).toNat)
      case atStart => exact ⟨0, 2, rfl, by omega, Lib.hid rfl, Lib.hid HN.out, hM⟩
      case round =>
        clear hM
        obtain ⟨c, t, rfl, hc, HT, HN2, hM⟩ := hrel
        by_cases h0 : 0 ≤ t
        · have hc3 : c < 3 := by have := HT.out; omega
          have t3 : t < 3 := by have := HT.out; omega
          have hR1 := hR.below hM.below
          obtain ⟨X, HX⟩ : ∃ X, Hid (Val.ba i = X) := ⟨_, Lib.hid rfl⟩
          obtain ⟨Y, HY⟩ : ∃ Y, Hid (Val.dt t = Y) := ⟨_, Lib.hid rfl⟩
          have ga := hR1.base i hp
          have gb := hR1.dotI h0 (by omega)
          rw [HX.out] at ga
          rw [HY.out] at gb
          obtain ⟨N, HU⟩ : ∃ N, Hid (Val.fU (3 * i + c) = N) := ⟨_, Lib.hid rfl⟩
          have HE : Hid (X * Y = N) := Lib.hid (by rw [← HU.out, ← HX.out, ← HY.out]; unfold Val.fU; rw [(f_at hc3).1, (f_at hc3).2, HT.out])
          have hN : 4 ≤ N ∧ N ≤ 448 := by
            have := Val.bd_bounds (b := (i : Int)) (d := t) (by omega) (by omega) h0 (by omega)
            rw [HX.out, HY.out, HE.out] at this
            exact this
          have hw : IntKind.i64.wrap (X * Y) = N := by rw [HE.out]; exact IntWalk.i64_in _ (by omega)
          have HF : Hid (Val.fits m (3 * i + c) = (decide (N % 4 = 0) && decide (N / 4 ≤ m))) := Lib.hid (by unfold Val.fits; rw [HU.out])
          clear hR1
          go_wp2_with fail
          go_quiet (fail)
          have hM2 := hM.later (below_drewN (Below.refl _ _) nq)
          have HM2 := Lib.hid hM2
          clear hM hM2 ga gb hw
          generalize wr.drewN nq = wd at *
          by_cases hq : N % 4 = 0
          · have hq2 : (N % 4 == 0) = true := by simpa using hq
            by_cases hl : N / 4 ≤ m
            · obtain ⟨k0, k1, k2, k3⟩ := HM2.out.k
              go_wp2_with fail
              refine (as_any b d n e i t _).mono ?_
              rintro ed w5 ⟨rfl, hb5⟩
              have hM5 := HM2.out.later hb5
              obtain ⟨hk, c0, c1, c2, c3, g0, g1, g2, g3, hB⟩ := hM5
              clear hk hb5 HM2 k0 k1 k2 k3
              have HV : Hid (Val.gB m = i ∧ Val.gT m = t ∧ Val.gU m = N / 4) := Lib.hid (by
                have : Val.fitK m = 3 * i + c := Val.fst_found (by omega) HN2.out (by rw [HF.out, decide_eq_true hq, decide_eq_true hl]; rfl)
                unfold Val.gB Val.gT Val.gU
                rw [this, (f_at hc3).1, (f_at hc3).2, HU.out, HT.out]
                exact ⟨rfl, rfl, rfl⟩)
              obtain ⟨m0, m1, m2, m3⟩ := put4_of (x := .int .i64 (i : Int)) (y := .int .i64 t) (z := .int .i64 n) (u := .int .i64 e) c0 c1 c2 c3
              go_wp2
              rw [HV.out.1, HV.out.2.1, HV.out.2.2]
              exact bodyPost_ret (v := .tuple #[vl i t n e, .int .i64 (N / 4)]) (by simp [results, Tryz.results84, go_sem, m0, m1, m2, m3]) rfl ⟨rfl, put4_below hB (by omega)⟩
            · have HX2 : Hid (Val.fits m (3 * i + c) = false) := Lib.hid (by rw [HF.out, decide_eq_false hl]; simp)
              clear HF HE
              go_wp2
              go_roundw
              case rel => exact ⟨c + 1, t - 1, rfl, by omega, Lib.hid (by have := HT.out; omega), Lib.hid (HN2.out.next HX2.out), HM2.out⟩
              case measure => simp [intOf]; omega
          · have hq2 : (N % 4 == 0) = false := by simpa using hq
            have HX2 : Hid (Val.fits m (3 * i + c) = false) := Lib.hid (by rw [HF.out, decide_eq_false hq]; rfl)
            clear HF HE
            go_wp2
            go_roundw
            case rel => exact ⟨c + 1, t - 1, rfl, by omega, Lib.hid (by have := HT.out; omega), Lib.hid (HN2.out.next HX2.out), HM2.out⟩
            case measure => simp [intOf]; omega
        · obtain rfl : c = 3 := by have := HT.out; omega
          go_wp2
          go_roundw
          case rel => exact ⟨i + 1, by go_num, by omega, Lib.hid (by have := HN2.out; rw [show 3 * (i + 1) = 3 * i + 3 by omega]; exact this), hM⟩
          case measure => simp [intOf]; omega
    · obtain rfl : i = 7 := by omega
      exfalso
      have h1 : Val.fitK m = 21 := Val.fst_none HN.out
      have := (Val.fitK_lt hm).1
      omega
end Go.Proofs.YtejiifkenanodaaGreatDoor
