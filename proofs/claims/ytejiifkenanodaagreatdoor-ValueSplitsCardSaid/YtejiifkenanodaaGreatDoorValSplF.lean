/-
  What is split: how long its parts are together, their order; what is found is split into itself.
-/
import Derived.Test.YtejiifkenanodaaGreatDoorValSpl
import Derived.Test.YtejiifkenanodaaGreatDoorValueHalves
namespace Go.Proofs.YtejiifkenanodaaGreatDoor
open Go.RowKit

theorem sp_may {x y : Int} {i : Nat} (hi : i < 4) (h : Val.spK x y = i) : Val.may x y = true ∧ Val.unI x y i = true := by
  unfold Val.spK at h
  cases hm : Val.may x y with
  | false => rw [hm] at h; simp at h; omega
  | true =>
    rw [hm, if_pos rfl] at h
    refine ⟨rfl, ?_⟩
    rcases Val.fst_spec (Val.unI x y) 4 with ⟨e, _⟩ | ⟨_, e, _⟩
    · unfold Val.kI at h; omega
    · unfold Val.kI at h; rw [h] at e; exact e
theorem sp_units {x y : Int} {i : Nat} (hi : i < 4) (h : Val.spK x y = i) : 1 ≤ Val.uI x y i ∧ Val.uI x y i ≤ 7168 ∧ Rat.ofN (Val.uI x y i) (Val.mI i) = x ∧ Rat.ofD (Val.uI x y i) (Val.mI i) = y := by
  obtain ⟨hm, hu⟩ := sp_may hi h
  have u1 := uI_pos hm hi hu
  have u2 := (unit_le hm hi).2
  obtain ⟨hr, h0, h64⟩ := (may_iff x y).1 hm
  have hy := hr.d1
  have hmi := mI_le hi
  have hw : (x * Val.mI i) % y = 0 := of_decide_eq_true hu
  have e : Val.uI x y i * y = x * Val.mI i := Int.ediv_mul_cancel_of_emod_eq_zero hw
  obtain ⟨_, a, b⟩ := Rat.of_complete (n := Val.uI x y i) (d := Val.mI i) (by omega) hr e.symm
  exact ⟨u1, u2, a, b⟩
theorem rm_le {u : Int} (h : 0 ≤ u) {n : Nat} (k : ∀ j, j < n → 1 ≤ Val.rm u j) : 0 ≤ Val.rm u n ∧ Val.rm u n ≤ u := by
  have := Val.rm_nonneg h k
  omega
/-- The parts' sum. -/
theorem sum_split {u : Int} (u1 : 1 ≤ u) (u2 : u ≤ 7168) {i : Nat} (hi : i < 4) {k : Nat} (hk : Val.Fills u k) (w : World) (v : Value) (hR : Vars w) (hr : Row w v (prt u (Val.kN i) (Val.kE i)) k) :
    Calls Tryz.prog 26 #[v] w fun ed w' => ed = .returned (.tuple #[rt (Rat.ofN u (Val.mI i)) (Rat.ofD u (Val.mI i)), .bool true]) ∧ Below w.heap.size w w' := by
  have hkn := (Val.rm_nonneg (u := u) (by omega) hk.2).2
  rw [hk.1] at hkn
  obtain ⟨g, cap, rfl, hc⟩ := hr
  have hmi := mI_le hi
  have hsm : ∀ j, j ≤ k → Val.Small (u - Val.rm u j) (Val.mI i) := fun j hj => by
    have := rm_le (u := u) (by omega) (n := j) (fun t ht => hk.2 t (by omega))
    exact ⟨by omega, by omega, by omega, by omega⟩
  have z := Val.same_of (hsm 0 (by omega)) (show Val.Small 0 1 from ⟨by omega, by omega, by omega, by omega⟩) (by simp [Val.rm])
  have := sum_row (prt u (Val.kN i) (Val.kE i)) k g cap (fun j => Rat.ofN (u - Val.rm u j) (Val.mI i)) (fun j => Rat.ofD (u - Val.rm u j) (Val.mI i)) w hR (by omega) ⟨g, cap, rfl, hc⟩ (by show Rat.ofN _ _ = 0; rw [z.1]; decide +kernel) (by show Rat.ofD _ _ = 1; rw [z.2]; decide +kernel) (Lib.hid fun j hj => ?_)
  · rw [hk.1, Int.sub_zero] at this
    exact this
  · have hr1 := hk.2 j hj
    obtain ⟨ho, hN, hD⟩ := len_plain hr1 hi
    obtain ⟨_, g1, g2, _⟩ := Val.fitK_lt hr1
    have hle := rm_le (u := u) (by omega) (n := j) (fun t ht => hk.2 t (by omega))
    refine ⟨ho, fun w => ?_⟩
    have hg : Val.Small (Val.gU (Val.rm u j)) (Val.mI i) := ⟨by omega, by omega, by omega, by omega⟩
    have := add_call (hsm j (by omega)) hg (hsm (j + 1) (by omega)) (by rw [show Val.rm u (j + 1) = Val.rm u j - Val.gU (Val.rm u j) from rfl]; grind) w
    rw [← hN, ← hD] at this
    exact this
/-- Of what is found the split is known. -/
def fsp (x y : Int) (j : Nat) : Bool := !(Val.fnd x y == j) || (Val.spK x y == 4 || ((Val.gU (Val.uI x y (Val.spK x y)) == Val.uI x y (Val.spK x y)) && ((Val.gB (Val.uI x y (Val.spK x y)) == Val.cB j) && ((Val.gT (Val.uI x y (Val.spK x y)) == Val.cT j) && ((Val.kN (Val.spK x y) == Val.kN (j / 21)) && (Val.kE (Val.spK x y) == Val.kE (j / 21)))))))
set_option maxRecDepth 100000 in
theorem fsp_all : ∀ j : Fin 84, fsp (Val.lenN (Val.cB j.val) (Val.cT j.val) (Val.kN (j.val / 21)) (Val.kE (j.val / 21))) (Val.lenD (Val.cB j.val) (Val.cT j.val) (Val.kN (j.val / 21)) (Val.kE (j.val / 21))) j.val = true := by decide +kernel
end Go.Proofs.YtejiifkenanodaaGreatDoor
