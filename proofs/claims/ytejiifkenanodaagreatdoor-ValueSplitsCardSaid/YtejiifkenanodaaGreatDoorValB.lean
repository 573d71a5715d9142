/-
  The contract of value.Right.
-/
import Derived.Test.YtejiifkenanodaaGreatDoorValA
namespace Go.Proofs.YtejiifkenanodaaGreatDoor
open Go.RowKit

set_option maxRecDepth 100000 in
set_option maxHeartbeats 4000000 in
theorem vright_1 (b d n e : Int) (w : World) (hA : decide (0 ≤ b ∧ b ≤ 6) = false) (hN : (n == 0) = false) (hC : decide (2 ≤ n ∧ n ≤ 15) = false) :
    Calls Tryz.prog 19 #[vl b d n e] w fun ed w' => ed = .returned (.bool false) ∧ Below w.heap.size w w' := by
  go_enter Tryz.func19, Tryz.ntmps19
  go_wp2_with (go_at_call 46; refine (vwithin_any _ _ _ _).mono ?_; rintro e w' ⟨rfl, rfl⟩; first | rw [hA] | rw [hC])
  go_ret
  exact ⟨rfl, (by repeat (first | exact Below.refl _ _ | refine below_drewN ?_ _ | refine Below.drew ?_ | refine Below.setCell ?_ (by simp <;> omega) _ | refine Below.alloc ?_ (by simp <;> omega) _))⟩

set_option maxRecDepth 100000 in
set_option maxHeartbeats 4000000 in
theorem vright_2 (b d n e : Int) (w : World) (hA : decide (0 ≤ b ∧ b ≤ 6) = false) (hN : (n == 0) = false) (hC : decide (2 ≤ n ∧ n ≤ 15) = true) (hD : decide (1 ≤ e ∧ e ≤ 15) = false) :
    Calls Tryz.prog 19 #[vl b d n e] w fun ed w' => ed = .returned (.bool false) ∧ Below w.heap.size w w' := by
  go_enter Tryz.func19, Tryz.ntmps19
  go_wp2_with (go_at_call 46; refine (vwithin_any _ _ _ _).mono ?_; rintro e w' ⟨rfl, rfl⟩; first | rw [hA] | rw [hC] | rw [hD])
  go_ret
  exact ⟨rfl, (by repeat (first | exact Below.refl _ _ | refine below_drewN ?_ _ | refine Below.drew ?_ | refine Below.setCell ?_ (by simp <;> omega) _ | refine Below.alloc ?_ (by simp <;> omega) _))⟩

set_option maxRecDepth 100000 in
set_option maxHeartbeats 4000000 in
theorem vright_3 (b d n e : Int) (w : World) (hA : decide (0 ≤ b ∧ b ≤ 6) = false) (hN : (n == 0) = false) (hC : decide (2 ≤ n ∧ n ≤ 15) = true) (hD : decide (1 ≤ e ∧ e ≤ 15) = true) (hX : (n != e) = false) :
    Calls Tryz.prog 19 #[vl b d n e] w fun ed w' => ed = .returned (.bool false) ∧ Below w.heap.size w w' := by
  go_enter Tryz.func19, Tryz.ntmps19
  go_wp2_with (go_at_call 46; refine (vwithin_any _ _ _ _).mono ?_; rintro e w' ⟨rfl, rfl⟩; first | rw [hA] | rw [hC] | rw [hD])
  go_ret
  exact ⟨rfl, (by repeat (first | exact Below.refl _ _ | refine below_drewN ?_ _ | refine Below.drew ?_ | refine Below.setCell ?_ (by simp <;> omega) _ | refine Below.alloc ?_ (by simp <;> omega) _))⟩

set_option maxRecDepth 100000 in
set_option maxHeartbeats 4000000 in
theorem vright_4 (b d n e : Int) (w : World) (hA : decide (0 ≤ b ∧ b ≤ 6) = false) (hN : (n == 0) = false) (hC : decide (2 ≤ n ∧ n ≤ 15) = true) (hD : decide (1 ≤ e ∧ e ≤ 15) = true) (hX : (n != e) = true) :
    Calls Tryz.prog 19 #[vl b d n e] w fun ed w' => ed = .returned (.bool false) ∧ Below w.heap.size w w' := by
  go_enter Tryz.func19, Tryz.ntmps19
  go_wp2_with (go_at_call 46; refine (vwithin_any _ _ _ _).mono ?_; rintro e w' ⟨rfl, rfl⟩; first | rw [hA] | rw [hC] | rw [hD])
  go_ret
  exact ⟨rfl, (by repeat (first | exact Below.refl _ _ | refine below_drewN ?_ _ | refine Below.drew ?_ | refine Below.setCell ?_ (by simp <;> omega) _ | refine Below.alloc ?_ (by simp <;> omega) _))⟩

set_option maxRecDepth 100000 in
set_option maxHeartbeats 4000000 in
theorem vright_5 (b d n e : Int) (w : World) (hA : decide (0 ≤ b ∧ b ≤ 6) = false) (hN : (n == 0) = true) (hE : (e == 0) = true) (hC : decide (2 ≤ n ∧ n ≤ 15) = false) :
    Calls Tryz.prog 19 #[vl b d n e] w fun ed w' => ed = .returned (.bool false) ∧ Below w.heap.size w w' := by
  go_enter Tryz.func19, Tryz.ntmps19
  go_wp2_with (go_at_call 46; refine (vwithin_any _ _ _ _).mono ?_; rintro e w' ⟨rfl, rfl⟩; first | rw [hA] | rw [hC])
  go_ret
  exact ⟨rfl, (by repeat (first | exact Below.refl _ _ | refine below_drewN ?_ _ | refine Below.drew ?_ | refine Below.setCell ?_ (by simp <;> omega) _ | refine Below.alloc ?_ (by simp <;> omega) _))⟩

set_option maxRecDepth 100000 in
set_option maxHeartbeats 4000000 in
theorem vright_6 (b d n e : Int) (w : World) (hA : decide (0 ≤ b ∧ b ≤ 6) = false) (hN : (n == 0) = true) (hE : (e == 0) = false) (hC : decide (2 ≤ n ∧ n ≤ 15) = false) :
    Calls Tryz.prog 19 #[vl b d n e] w fun ed w' => ed = .returned (.bool false) ∧ Below w.heap.size w w' := by
  go_enter Tryz.func19, Tryz.ntmps19
  go_wp2_with (go_at_call 46; refine (vwithin_any _ _ _ _).mono ?_; rintro e w' ⟨rfl, rfl⟩; first | rw [hA] | rw [hC])
  go_ret
  exact ⟨rfl, (by repeat (first | exact Below.refl _ _ | refine below_drewN ?_ _ | refine Below.drew ?_ | refine Below.setCell ?_ (by simp <;> omega) _ | refine Below.alloc ?_ (by simp <;> omega) _))⟩

set_option maxRecDepth 100000 in
set_option maxHeartbeats 4000000 in
theorem vright_7 (b d n e : Int) (w : World) (hA : decide (0 ≤ b ∧ b ≤ 6) = true) (hB : decide (0 ≤ d ∧ d ≤ 2) = false) (hN : (n == 0) = false) (hC : decide (2 ≤ n ∧ n ≤ 15) = false) :
    Calls Tryz.prog 19 #[vl b d n e] w fun ed w' => ed = .returned (.bool false) ∧ Below w.heap.size w w' := by
  go_enter Tryz.func19, Tryz.ntmps19
  go_wp2_with (go_at_call 46; refine (vwithin_any _ _ _ _).mono ?_; rintro e w' ⟨rfl, rfl⟩; first | rw [hA] | rw [hB] | rw [hC])
  go_ret
  exact ⟨rfl, (by repeat (first | exact Below.refl _ _ | refine below_drewN ?_ _ | refine Below.drew ?_ | refine Below.setCell ?_ (by simp <;> omega) _ | refine Below.alloc ?_ (by simp <;> omega) _))⟩

set_option maxRecDepth 100000 in
set_option maxHeartbeats 4000000 in
theorem vright_8 (b d n e : Int) (w : World) (hA : decide (0 ≤ b ∧ b ≤ 6) = true) (hB : decide (0 ≤ d ∧ d ≤ 2) = false) (hN : (n == 0) = false) (hC : decide (2 ≤ n ∧ n ≤ 15) = true) (hD : decide (1 ≤ e ∧ e ≤ 15) = false) :
    Calls Tryz.prog 19 #[vl b d n e] w fun ed w' => ed = .returned (.bool false) ∧ Below w.heap.size w w' := by
  go_enter Tryz.func19, Tryz.ntmps19
  go_wp2_with (go_at_call 46; refine (vwithin_any _ _ _ _).mono ?_; rintro e w' ⟨rfl, rfl⟩; first | rw [hA] | rw [hB] | rw [hC] | rw [hD])
  go_ret
  exact ⟨rfl, (by repeat (first | exact Below.refl _ _ | refine below_drewN ?_ _ | refine Below.drew ?_ | refine Below.setCell ?_ (by simp <;> omega) _ | refine Below.alloc ?_ (by simp <;> omega) _))⟩

set_option maxRecDepth 100000 in
set_option maxHeartbeats 4000000 in
theorem vright_9 (b d n e : Int) (w : World) (hA : decide (0 ≤ b ∧ b ≤ 6) = true) (hB : decide (0 ≤ d ∧ d ≤ 2) = false) (hN : (n == 0) = false) (hC : decide (2 ≤ n ∧ n ≤ 15) = true) (hD : decide (1 ≤ e ∧ e ≤ 15) = true) (hX : (n != e) = false) :
    Calls Tryz.prog 19 #[vl b d n e] w fun ed w' => ed = .returned (.bool false) ∧ Below w.heap.size w w' := by
  go_enter Tryz.func19, Tryz.ntmps19
  go_wp2_with (go_at_call 46; refine (vwithin_any _ _ _ _).mono ?_; rintro e w' ⟨rfl, rfl⟩; first | rw [hA] | rw [hB] | rw [hC] | rw [hD])
  go_ret
  exact ⟨rfl, (by repeat (first | exact Below.refl _ _ | refine below_drewN ?_ _ | refine Below.drew ?_ | refine Below.setCell ?_ (by simp <;> omega) _ | refine Below.alloc ?_ (by simp <;> omega) _))⟩

set_option maxRecDepth 100000 in
set_option maxHeartbeats 4000000 in
theorem vright_10 (b d n e : Int) (w : World) (hA : decide (0 ≤ b ∧ b ≤ 6) = true) (hB : decide (0 ≤ d ∧ d ≤ 2) = false) (hN : (n == 0) = false) (hC : decide (2 ≤ n ∧ n ≤ 15) = true) (hD : decide (1 ≤ e ∧ e ≤ 15) = true) (hX : (n != e) = true) :
    Calls Tryz.prog 19 #[vl b d n e] w fun ed w' => ed = .returned (.bool false) ∧ Below w.heap.size w w' := by
  go_enter Tryz.func19, Tryz.ntmps19
  go_wp2_with (go_at_call 46; refine (vwithin_any _ _ _ _).mono ?_; rintro e w' ⟨rfl, rfl⟩; first | rw [hA] | rw [hB] | rw [hC] | rw [hD])
  go_ret
  exact ⟨rfl, (by repeat (first | exact Below.refl _ _ | refine below_drewN ?_ _ | refine Below.drew ?_ | refine Below.setCell ?_ (by simp <;> omega) _ | refine Below.alloc ?_ (by simp <;> omega) _))⟩

set_option maxRecDepth 100000 in
set_option maxHeartbeats 4000000 in
theorem vright_11 (b d n e : Int) (w : World) (hA : decide (0 ≤ b ∧ b ≤ 6) = true) (hB : decide (0 ≤ d ∧ d ≤ 2) = false) (hN : (n == 0) = true) (hE : (e == 0) = true) (hC : decide (2 ≤ n ∧ n ≤ 15) = false) :
    Calls Tryz.prog 19 #[vl b d n e] w fun ed w' => ed = .returned (.bool false) ∧ Below w.heap.size w w' := by
  go_enter Tryz.func19, Tryz.ntmps19
  go_wp2_with (go_at_call 46; refine (vwithin_any _ _ _ _).mono ?_; rintro e w' ⟨rfl, rfl⟩; first | rw [hA] | rw [hB] | rw [hC])
  go_ret
  exact ⟨rfl, (by repeat (first | exact Below.refl _ _ | refine below_drewN ?_ _ | refine Below.drew ?_ | refine Below.setCell ?_ (by simp <;> omega) _ | refine Below.alloc ?_ (by simp <;> omega) _))⟩

set_option maxRecDepth 100000 in
set_option maxHeartbeats 4000000 in
theorem vright_12 (b d n e : Int) (w : World) (hA : decide (0 ≤ b ∧ b ≤ 6) = true) (hB : decide (0 ≤ d ∧ d ≤ 2) = false) (hN : (n == 0) = true) (hE : (e == 0) = false) (hC : decide (2 ≤ n ∧ n ≤ 15) = false) :
    Calls Tryz.prog 19 #[vl b d n e] w fun ed w' => ed = .returned (.bool false) ∧ Below w.heap.size w w' := by
  go_enter Tryz.func19, Tryz.ntmps19
  go_wp2_with (go_at_call 46; refine (vwithin_any _ _ _ _).mono ?_; rintro e w' ⟨rfl, rfl⟩; first | rw [hA] | rw [hB] | rw [hC])
  go_ret
  exact ⟨rfl, (by repeat (first | exact Below.refl _ _ | refine below_drewN ?_ _ | refine Below.drew ?_ | refine Below.setCell ?_ (by simp <;> omega) _ | refine Below.alloc ?_ (by simp <;> omega) _))⟩

set_option maxRecDepth 100000 in
set_option maxHeartbeats 4000000 in
theorem vright_13 (b d n e : Int) (w : World) (hA : decide (0 ≤ b ∧ b ≤ 6) = true) (hB : decide (0 ≤ d ∧ d ≤ 2) = true) (hN : (n == 0) = false) (hC : decide (2 ≤ n ∧ n ≤ 15) = false) :
    Calls Tryz.prog 19 #[vl b d n e] w fun ed w' => ed = .returned (.bool false) ∧ Below w.heap.size w w' := by
  go_enter Tryz.func19, Tryz.ntmps19
  go_wp2_with (go_at_call 46; refine (vwithin_any _ _ _ _).mono ?_; rintro e w' ⟨rfl, rfl⟩; first | rw [hA] | rw [hB] | rw [hC])
  go_ret
  exact ⟨rfl, (by repeat (first | exact Below.refl _ _ | refine below_drewN ?_ _ | refine Below.drew ?_ | refine Below.setCell ?_ (by simp <;> omega) _ | refine Below.alloc ?_ (by simp <;> omega) _))⟩

set_option maxRecDepth 100000 in
set_option maxHeartbeats 4000000 in
theorem vright_14 (b d n e : Int) (w : World) (hA : decide (0 ≤ b ∧ b ≤ 6) = true) (hB : decide (0 ≤ d ∧ d ≤ 2) = true) (hN : (n == 0) = false) (hC : decide (2 ≤ n ∧ n ≤ 15) = true) (hD : decide (1 ≤ e ∧ e ≤ 15) = false) :
    Calls Tryz.prog 19 #[vl b d n e] w fun ed w' => ed = .returned (.bool false) ∧ Below w.heap.size w w' := by
  go_enter Tryz.func19, Tryz.ntmps19
  go_wp2_with (go_at_call 46; refine (vwithin_any _ _ _ _).mono ?_; rintro e w' ⟨rfl, rfl⟩; first | rw [hA] | rw [hB] | rw [hC] | rw [hD])
  go_ret
  exact ⟨rfl, (by repeat (first | exact Below.refl _ _ | refine below_drewN ?_ _ | refine Below.drew ?_ | refine Below.setCell ?_ (by simp <;> omega) _ | refine Below.alloc ?_ (by simp <;> omega) _))⟩

set_option maxRecDepth 100000 in
set_option maxHeartbeats 4000000 in
theorem vright_15 (b d n e : Int) (w : World) (hA : decide (0 ≤ b ∧ b ≤ 6) = true) (hB : decide (0 ≤ d ∧ d ≤ 2) = true) (hN : (n == 0) = false) (hC : decide (2 ≤ n ∧ n ≤ 15) = true) (hD : decide (1 ≤ e ∧ e ≤ 15) = true) (hX : (n != e) = false) :
    Calls Tryz.prog 19 #[vl b d n e] w fun ed w' => ed = .returned (.bool false) ∧ Below w.heap.size w w' := by
  go_enter Tryz.func19, Tryz.ntmps19
  go_wp2_with (go_at_call 46; refine (vwithin_any _ _ _ _).mono ?_; rintro e w' ⟨rfl, rfl⟩; first | rw [hA] | rw [hB] | rw [hC] | rw [hD])
  go_ret
  exact ⟨rfl, (by repeat (first | exact Below.refl _ _ | refine below_drewN ?_ _ | refine Below.drew ?_ | refine Below.setCell ?_ (by simp <;> omega) _ | refine Below.alloc ?_ (by simp <;> omega) _))⟩

set_option maxRecDepth 100000 in
set_option maxHeartbeats 4000000 in
theorem vright_16 (b d n e : Int) (w : World) (hA : decide (0 ≤ b ∧ b ≤ 6) = true) (hB : decide (0 ≤ d ∧ d ≤ 2) = true) (hN : (n == 0) = false) (hC : decide (2 ≤ n ∧ n ≤ 15) = true) (hD : decide (1 ≤ e ∧ e ≤ 15) = true) (hX : (n != e) = true) :
    Calls Tryz.prog 19 #[vl b d n e] w fun ed w' => ed = .returned (.bool true) ∧ Below w.heap.size w w' := by
  go_enter Tryz.func19, Tryz.ntmps19
  go_wp2_with (go_at_call 46; refine (vwithin_any _ _ _ _).mono ?_; rintro e w' ⟨rfl, rfl⟩; first | rw [hA] | rw [hB] | rw [hC] | rw [hD])
  go_ret
  exact ⟨rfl, (by repeat (first | exact Below.refl _ _ | refine below_drewN ?_ _ | refine Below.drew ?_ | refine Below.setCell ?_ (by simp <;> omega) _ | refine Below.alloc ?_ (by simp <;> omega) _))⟩

set_option maxRecDepth 100000 in
set_option maxHeartbeats 4000000 in
theorem vright_17 (b d n e : Int) (w : World) (hA : decide (0 ≤ b ∧ b ≤ 6) = true) (hB : decide (0 ≤ d ∧ d ≤ 2) = true) (hN : (n == 0) = true) (hE : (e == 0) = true) (hC : decide (2 ≤ n ∧ n ≤ 15) = false) :
    Calls Tryz.prog 19 #[vl b d n e] w fun ed w' => ed = .returned (.bool true) ∧ Below w.heap.size w w' := by
  go_enter Tryz.func19, Tryz.ntmps19
  go_wp2_with (go_at_call 46; refine (vwithin_any _ _ _ _).mono ?_; rintro e w' ⟨rfl, rfl⟩; first | rw [hA] | rw [hB] | rw [hC])
  go_ret
  exact ⟨rfl, (by repeat (first | exact Below.refl _ _ | refine below_drewN ?_ _ | refine Below.drew ?_ | refine Below.setCell ?_ (by simp <;> omega) _ | refine Below.alloc ?_ (by simp <;> omega) _))⟩

set_option maxRecDepth 100000 in
set_option maxHeartbeats 4000000 in
theorem vright_18 (b d n e : Int) (w : World) (hA : decide (0 ≤ b ∧ b ≤ 6) = true) (hB : decide (0 ≤ d ∧ d ≤ 2) = true) (hN : (n == 0) = true) (hE : (e == 0) = false) (hC : decide (2 ≤ n ∧ n ≤ 15) = false) :
    Calls Tryz.prog 19 #[vl b d n e] w fun ed w' => ed = .returned (.bool false) ∧ Below w.heap.size w w' := by
  go_enter Tryz.func19, Tryz.ntmps19
  go_wp2_with (go_at_call 46; refine (vwithin_any _ _ _ _).mono ?_; rintro e w' ⟨rfl, rfl⟩; first | rw [hA] | rw [hB] | rw [hC])
  go_ret
  exact ⟨rfl, (by repeat (first | exact Below.refl _ _ | refine below_drewN ?_ _ | refine Below.drew ?_ | refine Below.setCell ?_ (by simp <;> omega) _ | refine Below.alloc ?_ (by simp <;> omega) _))⟩

theorem vright_any (b d n e : Int) (w : World) :
    Calls Tryz.prog 19 #[vl b d n e] w fun e' w' => e' = .returned (.bool (Val.ok b d n e)) ∧ Below w.heap.size w w' := by
  have hok : Val.ok b d n e = ((decide (0 ≤ b ∧ b ≤ 6) && decide (0 ≤ d ∧ d ≤ 2)) && (((n == 0) && (e == 0)) || ((decide (2 ≤ n ∧ n ≤ 15) && decide (1 ≤ e ∧ e ≤ 15)) && (n != e)))) := by
    unfold Val.ok
    rw [Bool.eq_iff_iff]
    simp only [decide_eq_true_iff, Bool.and_eq_true, Bool.or_eq_true, beq_iff_eq, bne_iff_ne]
    omega
  have hNC : (n == 0) = true → decide (2 ≤ n ∧ n ≤ 15) = false := by intro h; simp at h; simp; omega
  rw [hok]
  cases hA : decide (0 ≤ b ∧ b ≤ 6) <;> cases hB : decide (0 ≤ d ∧ d ≤ 2) <;> cases hN : (n == 0) <;> cases hE : (e == 0) <;> cases hC : decide (2 ≤ n ∧ n ≤ 15) <;> cases hD : decide (1 ≤ e ∧ e ≤ 15) <;> cases hX : (n != e)
  all_goals first
    | exact absurd (hC.symm.trans (hNC hN)) (by decide)
    | exact vright_1 b d n e w hA hN hC
    | exact vright_2 b d n e w hA hN hC hD
    | exact vright_3 b d n e w hA hN hC hD hX
    | exact vright_4 b d n e w hA hN hC hD hX
    | exact vright_5 b d n e w hA hN hE hC
    | exact vright_6 b d n e w hA hN hE hC
    | exact vright_7 b d n e w hA hB hN hC
    | exact vright_8 b d n e w hA hB hN hC hD
    | exact vright_9 b d n e w hA hB hN hC hD hX
    | exact vright_10 b d n e w hA hB hN hC hD hX
    | exact vright_11 b d n e w hA hB hN hE hC
    | exact vright_12 b d n e w hA hB hN hE hC
    | exact vright_13 b d n e w hA hB hN hC
    | exact vright_14 b d n e w hA hB hN hC hD
    | exact vright_15 b d n e w hA hB hN hC hD hX
    | exact vright_16 b d n e w hA hB hN hC hD hX
    | exact vright_17 b d n e w hA hB hN hE hC
    | exact vright_18 b d n e w hA hB hN hE hC
end Go.Proofs.YtejiifkenanodaaGreatDoor
