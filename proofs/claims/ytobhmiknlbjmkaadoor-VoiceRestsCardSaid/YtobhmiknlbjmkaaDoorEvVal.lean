/-
  Out of layer 4: the contracts of value.Right and Length; '==' on values.
-/
import Derived.Test.YtobhmiknlbjmkaaDoorEvPit
namespace Go.Proofs.YtobhmiknlbjmkaaDoor
open Go.RowKit

theorem vwithin_any (n l m : Int) (w : World) :
    Calls Tryd.prog 64 #[.int .i64 n, .int .i64 l, .int .i64 m] w fun e w' => e = .returned (.bool (decide (l ≤ n ∧ n ≤ m))) ∧ w = w' := by
  by_cases h1 : l ≤ n
  · by_cases h2 : n ≤ m
    · rw [decide_eq_true (⟨h1, h2⟩ : l ≤ n ∧ n ≤ m)]
      go_enter Tryd.func64, Tryd.ntmps64
      go_wp2
      go_ret
      exact ⟨rfl, rfl⟩
    · rw [decide_eq_false (fun h : l ≤ n ∧ n ≤ m => h2 h.2)]
      go_enter Tryd.func64, Tryd.ntmps64
      go_wp2
      go_ret
      exact ⟨rfl, rfl⟩
  · rw [decide_eq_false (fun h : l ≤ n ∧ n ≤ m => h1 h.1)]
    go_enter Tryd.func64, Tryd.ntmps64
    go_wp2
    go_ret
    exact ⟨rfl, rfl⟩

set_option maxRecDepth 100000 in
set_option maxHeartbeats 4000000 in
theorem plain_any (b d n e : Int) (w : World) :
    Calls Tryd.prog 90 #[vl b d n e] w fun e w' => e = .returned (.bool (n == 0)) ∧ Below w.heap.size w w' := by
  go_enter Tryd.func90, Tryd.ntmps90
  go_wp2
  go_ret
  exact ⟨rfl, (by repeat (first | exact Below.refl _ _ | refine below_drewN ?_ _ | refine Below.drew ?_ | refine Below.setCell ?_ (by simp <;> omega) _ | refine Below.alloc ?_ (by simp <;> omega) _))⟩

set_option maxRecDepth 100000 in
set_option maxHeartbeats 4000000 in
theorem tuplet_no (b d n e : Int) (w : World) (hn : (n == 0) = true) :
    Calls Tryd.prog 80 #[vl b d n e] w fun e w' => e = .returned (.tuple #[.int .i64 1, .int .i64 1]) ∧ Below w.heap.size w w' := by
  have hB0 : Below w.heap.size w w := Below.refl _ _
  go_enter Tryd.func80, Tryd.ntmps80
  go_wp2_with fail
  refine (plain_any b d n e _).mono ?_
  rintro e w1 ⟨rfl, hb1⟩
  have hs1 : Below w.heap.size w w1 := Below.trans (by repeat (first | exact Below.refl _ _ | refine Below.alloc ?_ (by simp <;> omega) _)) (hb1.mono (by simp <;> omega))
  have c_v_0 : w1.cell? ⟨w.heap.size, 0, none⟩ = some (.int .i64 b) := (hb1.cell (by simp <;> omega)).trans (by go_simp)
  have c_v_1 : w1.cell? ⟨w.heap.size, 1, none⟩ = some (.int .i64 d) := (hb1.cell (by simp <;> omega)).trans (by go_simp)
  have c_v_2 : w1.cell? ⟨w.heap.size, 2, none⟩ = some (.int .i64 n) := (hb1.cell (by simp <;> omega)).trans (by go_simp)
  have c_v_3 : w1.cell? ⟨w.heap.size, 3, none⟩ = some (.int .i64 e) := (hb1.cell (by simp <;> omega)).trans (by go_simp)
  have z_v := World.block_lt_of_cell? _ _ c_v_0
  have hB1 := below_two hB0 hs1
  clear hB0 hs1 hb1
  rw [hn]
  go_wp2
  go_ret2
  exact ⟨rfl, hB1⟩

set_option maxRecDepth 100000 in
set_option maxHeartbeats 4000000 in
theorem tuplet_yes (b d n e : Int) (w : World) (hn : (n == 0) = false) :
    Calls Tryd.prog 80 #[vl b d n e] w fun ed w' => ed = .returned (.tuple #[.int .i64 n, .int .i64 e]) ∧ Below w.heap.size w w' := by
  have hB0 : Below w.heap.size w w := Below.refl _ _
  go_enter Tryd.func80, Tryd.ntmps80
  go_wp2_with fail
  refine (plain_any b d n e _).mono ?_
  rintro e w1 ⟨rfl, hb1⟩
  have hs1 : Below w.heap.size w w1 := Below.trans (by repeat (first | exact Below.refl _ _ | refine Below.alloc ?_ (by simp <;> omega) _)) (hb1.mono (by simp <;> omega))
  have c_v_0 : w1.cell? ⟨w.heap.size, 0, none⟩ = some (.int .i64 b) := (hb1.cell (by simp <;> omega)).trans (by go_simp)
  have c_v_1 : w1.cell? ⟨w.heap.size, 1, none⟩ = some (.int .i64 d) := (hb1.cell (by simp <;> omega)).trans (by go_simp)
  have c_v_2 : w1.cell? ⟨w.heap.size, 2, none⟩ = some (.int .i64 n) := (hb1.cell (by simp <;> omega)).trans (by go_simp)
  have c_v_3 : w1.cell? ⟨w.heap.size, 3, none⟩ = some (.int .i64 e) := (hb1.cell (by simp <;> omega)).trans (by go_simp)
  have z_v := World.block_lt_of_cell? _ _ c_v_0
  have hB1 := below_two hB0 hs1
  clear hB0 hs1 hb1
  rw [hn]
  go_wp2
  go_quiet (fail)
  go_wp2
  go_ret2
  exact ⟨rfl, below_drewN hB1 _⟩

theorem tuplet_any (b d n e : Int) (w : World) :
    Calls Tryd.prog 80 #[vl b d n e] w fun e' w' => e' = .returned (.tuple #[.int .i64 (Val.tn n), .int .i64 (Val.te n e)]) ∧ Below w.heap.size w w' := by
  unfold Val.tn Val.te
  by_cases h : n = 0
  · rw [if_pos h, if_pos h]; exact tuplet_no b d n e w (by simpa using h)
  · rw [if_neg h, if_neg h]; exact tuplet_yes b d n e w (by simpa using h)

set_option maxRecDepth 100000 in
set_option maxHeartbeats 4000000 in
theorem vright_1 (b d n e : Int) (w : World) (hA : decide (0 ≤ b ∧ b ≤ 6) = false) (hN : (n == 0) = false) (hC : decide (2 ≤ n ∧ n ≤ 15) = false) :
    Calls Tryd.prog 42 #[vl b d n e] w fun ed w' => ed = .returned (.bool false) ∧ Below w.heap.size w w' := by
  go_enter Tryd.func42, Tryd.ntmps42
  go_wp2_with (go_at_call 64; refine (vwithin_any _ _ _ _).mono ?_; rintro e w' ⟨rfl, rfl⟩; first | rw [hA] | rw [hC])
  go_ret
  exact ⟨rfl, (by repeat (first | exact Below.refl _ _ | refine below_drewN ?_ _ | refine Below.drew ?_ | refine Below.setCell ?_ (by simp <;> omega) _ | refine Below.alloc ?_ (by simp <;> omega) _))⟩

set_option maxRecDepth 100000 in
set_option maxHeartbeats 4000000 in
theorem vright_2 (b d n e : Int) (w : World) (hA : decide (0 ≤ b ∧ b ≤ 6) = false) (hN : (n == 0) = false) (hC : decide (2 ≤ n ∧ n ≤ 15) = true) (hD : decide (1 ≤ e ∧ e ≤ 15) = false) :
    Calls Tryd.prog 42 #[vl b d n e] w fun ed w' => ed = .returned (.bool false) ∧ Below w.heap.size w w' := by
  go_enter Tryd.func42, Tryd.ntmps42
  go_wp2_with (go_at_call 64; refine (vwithin_any _ _ _ _).mono ?_; rintro e w' ⟨rfl, rfl⟩; first | rw [hA] | rw [hC] | rw [hD])
  go_ret
  exact ⟨rfl, (by repeat (first | exact Below.refl _ _ | refine below_drewN ?_ _ | refine Below.drew ?_ | refine Below.setCell ?_ (by simp <;> omega) _ | refine Below.alloc ?_ (by simp <;> omega) _))⟩

set_option maxRecDepth 100000 in
set_option maxHeartbeats 4000000 in
theorem vright_3 (b d n e : Int) (w : World) (hA : decide (0 ≤ b ∧ b ≤ 6) = false) (hN : (n == 0) = false) (hC : decide (2 ≤ n ∧ n ≤ 15) = true) (hD : decide (1 ≤ e ∧ e ≤ 15) = true) (hX : (n != e) = false) :
    Calls Tryd.prog 42 #[vl b d n e] w fun ed w' => ed = .returned (.bool false) ∧ Below w.heap.size w w' := by
  go_enter Tryd.func42, Tryd.ntmps42
  go_wp2_with (go_at_call 64; refine (vwithin_any _ _ _ _).mono ?_; rintro e w' ⟨rfl, rfl⟩; first | rw [hA] | rw [hC] | rw [hD])
  go_ret
  exact ⟨rfl, (by repeat (first | exact Below.refl _ _ | refine below_drewN ?_ _ | refine Below.drew ?_ | refine Below.setCell ?_ (by simp <;> omega) _ | refine Below.alloc ?_ (by simp <;> omega) _))⟩

set_option maxRecDepth 100000 in
set_option maxHeartbeats 4000000 in
theorem vright_4 (b d n e : Int) (w : World) (hA : decide (0 ≤ b ∧ b ≤ 6) = false) (hN : (n == 0) = false) (hC : decide (2 ≤ n ∧ n ≤ 15) = true) (hD : decide (1 ≤ e ∧ e ≤ 15) = true) (hX : (n != e) = true) :
    Calls Tryd.prog 42 #[vl b d n e] w fun ed w' => ed = .returned (.bool false) ∧ Below w.heap.size w w' := by
  go_enter Tryd.func42, Tryd.ntmps42
  go_wp2_with (go_at_call 64; refine (vwithin_any _ _ _ _).mono ?_; rintro e w' ⟨rfl, rfl⟩; first | rw [hA] | rw [hC] | rw [hD])
  go_ret
  exact ⟨rfl, (by repeat (first | exact Below.refl _ _ | refine below_drewN ?_ _ | refine Below.drew ?_ | refine Below.setCell ?_ (by simp <;> omega) _ | refine Below.alloc ?_ (by simp <;> omega) _))⟩

set_option maxRecDepth 100000 in
set_option maxHeartbeats 4000000 in
theorem vright_5 (b d n e : Int) (w : World) (hA : decide (0 ≤ b ∧ b ≤ 6) = false) (hN : (n == 0) = true) (hE : (e == 0) = true) (hC : decide (2 ≤ n ∧ n ≤ 15) = false) :
    Calls Tryd.prog 42 #[vl b d n e] w fun ed w' => ed = .returned (.bool false) ∧ Below w.heap.size w w' := by
  go_enter Tryd.func42, Tryd.ntmps42
  go_wp2_with (go_at_call 64; refine (vwithin_any _ _ _ _).mono ?_; rintro e w' ⟨rfl, rfl⟩; first | rw [hA] | rw [hC])
  go_ret
  exact ⟨rfl, (by repeat (first | exact Below.refl _ _ | refine below_drewN ?_ _ | refine Below.drew ?_ | refine Below.setCell ?_ (by simp <;> omega) _ | refine Below.alloc ?_ (by simp <;> omega) _))⟩

set_option maxRecDepth 100000 in
set_option maxHeartbeats 4000000 in
theorem vright_6 (b d n e : Int) (w : World) (hA : decide (0 ≤ b ∧ b ≤ 6) = false) (hN : (n == 0) = true) (hE : (e == 0) = false) (hC : decide (2 ≤ n ∧ n ≤ 15) = false) :
    Calls Tryd.prog 42 #[vl b d n e] w fun ed w' => ed = .returned (.bool false) ∧ Below w.heap.size w w' := by
  go_enter Tryd.func42, Tryd.ntmps42
  go_wp2_with (go_at_call 64; refine (vwithin_any _ _ _ _).mono ?_; rintro e w' ⟨rfl, rfl⟩; first | rw [hA] | rw [hC])
  go_ret
  exact ⟨rfl, (by repeat (first | exact Below.refl _ _ | refine below_drewN ?_ _ | refine Below.drew ?_ | refine Below.setCell ?_ (by simp <;> omega) _ | refine Below.alloc ?_ (by simp <;> omega) _))⟩

set_option maxRecDepth 100000 in
set_option maxHeartbeats 4000000 in
theorem vright_7 (b d n e : Int) (w : World) (hA : decide (0 ≤ b ∧ b ≤ 6) = true) (hB : decide (0 ≤ d ∧ d ≤ 2) = false) (hN : (n == 0) = false) (hC : decide (2 ≤ n ∧ n ≤ 15) = false) :
    Calls Tryd.prog 42 #[vl b d n e] w fun ed w' => ed = .returned (.bool false) ∧ Below w.heap.size w w' := by
  go_enter Tryd.func42, Tryd.ntmps42
  go_wp2_with (go_at_call 64; refine (vwithin_any _ _ _ _).mono ?_; rintro e w' ⟨rfl, rfl⟩; first | rw [hA] | rw [hB] | rw [hC])
  go_ret
  exact ⟨rfl, (by repeat (first | exact Below.refl _ _ | refine below_drewN ?_ _ | refine Below.drew ?_ | refine Below.setCell ?_ (by simp <;> omega) _ | refine Below.alloc ?_ (by simp <;> omega) _))⟩

set_option maxRecDepth 100000 in
set_option maxHeartbeats 4000000 in
theorem vright_8 (b d n e : Int) (w : World) (hA : decide (0 ≤ b ∧ b ≤ 6) = true) (hB : decide (0 ≤ d ∧ d ≤ 2) = false) (hN : (n == 0) = false) (hC : decide (2 ≤ n ∧ n ≤ 15) = true) (hD : decide (1 ≤ e ∧ e ≤ 15) = false) :
    Calls Tryd.prog 42 #[vl b d n e] w fun ed w' => ed = .returned (.bool false) ∧ Below w.heap.size w w' := by
  go_enter Tryd.func42, Tryd.ntmps42
  go_wp2_with (go_at_call 64; refine (vwithin_any _ _ _ _).mono ?_; rintro e w' ⟨rfl, rfl⟩; first | rw [hA] | rw [hB] | rw [hC] | rw [hD])
  go_ret
  exact ⟨rfl, (by repeat (first | exact Below.refl _ _ | refine below_drewN ?_ _ | refine Below.drew ?_ | refine Below.setCell ?_ (by simp <;> omega) _ | refine Below.alloc ?_ (by simp <;> omega) _))⟩

set_option maxRecDepth 100000 in
set_option maxHeartbeats 4000000 in
theorem vright_9 (b d n e : Int) (w : World) (hA : decide (0 ≤ b ∧ b ≤ 6) = true) (hB : decide (0 ≤ d ∧ d ≤ 2) = false) (hN : (n == 0) = false) (hC : decide (2 ≤ n ∧ n ≤ 15) = true) (hD : decide (1 ≤ e ∧ e ≤ 15) = true) (hX : (n != e) = false) :
    Calls Tryd.prog 42 #[vl b d n e] w fun ed w' => ed = .returned (.bool false) ∧ Below w.heap.size w w' := by
  go_enter Tryd.func42, Tryd.ntmps42
  go_wp2_with (go_at_call 64; refine (vwithin_any _ _ _ _).mono ?_; rintro e w' ⟨rfl, rfl⟩; first | rw [hA] | rw [hB] | rw [hC] | rw [hD])
  go_ret
  exact ⟨rfl, (by repeat (first | exact Below.refl _ _ | refine below_drewN ?_ _ | refine Below.drew ?_ | refine Below.setCell ?_ (by simp <;> omega) _ | refine Below.alloc ?_ (by simp <;> omega) _))⟩

set_option maxRecDepth 100000 in
set_option maxHeartbeats 4000000 in
theorem vright_10 (b d n e : Int) (w : World) (hA : decide (0 ≤ b ∧ b ≤ 6) = true) (hB : decide (0 ≤ d ∧ d ≤ 2) = false) (hN : (n == 0) = false) (hC : decide (2 ≤ n ∧ n ≤ 15) = true) (hD : decide (1 ≤ e ∧ e ≤ 15) = true) (hX : (n != e) = true) :
    Calls Tryd.prog 42 #[vl b d n e] w fun ed w' => ed = .returned (.bool false) ∧ Below w.heap.size w w' := by
  go_enter Tryd.func42, Tryd.ntmps42
  go_wp2_with (go_at_call 64; refine (vwithin_any _ _ _ _).mono ?_; rintro e w' ⟨rfl, rfl⟩; first | rw [hA] | rw [hB] | rw [hC] | rw [hD])
  go_ret
  exact ⟨rfl, (by repeat (first | exact Below.refl _ _ | refine below_drewN ?_ _ | refine Below.drew ?_ | refine Below.setCell ?_ (by simp <;> omega) _ | refine Below.alloc ?_ (by simp <;> omega) _))⟩

set_option maxRecDepth 100000 in
set_option maxHeartbeats 4000000 in
theorem vright_11 (b d n e : Int) (w : World) (hA : decide (0 ≤ b ∧ b ≤ 6) = true) (hB : decide (0 ≤ d ∧ d ≤ 2) = false) (hN : (n == 0) = true) (hE : (e == 0) = true) (hC : decide (2 ≤ n ∧ n ≤ 15) = false) :
    Calls Tryd.prog 42 #[vl b d n e] w fun ed w' => ed = .returned (.bool false) ∧ Below w.heap.size w w' := by
  go_enter Tryd.func42, Tryd.ntmps42
  go_wp2_with (go_at_call 64; refine (vwithin_any _ _ _ _).mono ?_; rintro e w' ⟨rfl, rfl⟩; first | rw [hA] | rw [hB] | rw [hC])
  go_ret
  exact ⟨rfl, (by repeat (first | exact Below.refl _ _ | refine below_drewN ?_ _ | refine Below.drew ?_ | refine Below.setCell ?_ (by simp <;> omega) _ | refine Below.alloc ?_ (by simp <;> omega) _))⟩

set_option maxRecDepth 100000 in
set_option maxHeartbeats 4000000 in
theorem vright_12 (b d n e : Int) (w : World) (hA : decide (0 ≤ b ∧ b ≤ 6) = true) (hB : decide (0 ≤ d ∧ d ≤ 2) = false) (hN : (n == 0) = true) (hE : (e == 0) = false) (hC : decide (2 ≤ n ∧ n ≤ 15) = false) :
    Calls Tryd.prog 42 #[vl b d n e] w fun ed w' => ed = .returned (.bool false) ∧ Below w.heap.size w w' := by
  go_enter Tryd.func42, Tryd.ntmps42
  go_wp2_with (go_at_call 64; refine (vwithin_any _ _ _ _).mono ?_; rintro e w' ⟨rfl, rfl⟩; first | rw [hA] | rw [hB] | rw [hC])
  go_ret
  exact ⟨rfl, (by repeat (first | exact Below.refl _ _ | refine below_drewN ?_ _ | refine Below.drew ?_ | refine Below.setCell ?_ (by simp <;> omega) _ | refine Below.alloc ?_ (by simp <;> omega) _))⟩

set_option maxRecDepth 100000 in
set_option maxHeartbeats 4000000 in
theorem vright_13 (b d n e : Int) (w : World) (hA : decide (0 ≤ b ∧ b ≤ 6) = true) (hB : decide (0 ≤ d ∧ d ≤ 2) = true) (hN : (n == 0) = false) (hC : decide (2 ≤ n ∧ n ≤ 15) = false) :
    Calls Tryd.prog 42 #[vl b d n e] w fun ed w' => ed = .returned (.bool false) ∧ Below w.heap.size w w' := by
  go_enter Tryd.func42, Tryd.ntmps42
  go_wp2_with (go_at_call 64; refine (vwithin_any _ _ _ _).mono ?_; rintro e w' ⟨rfl, rfl⟩; first | rw [hA] | rw [hB] | rw [hC])
  go_ret
  exact ⟨rfl, (by repeat (first | exact Below.refl _ _ | refine below_drewN ?_ _ | refine Below.drew ?_ | refine Below.setCell ?_ (by simp <;> omega) _ | refine Below.alloc ?_ (by simp <;> omega) _))⟩

set_option maxRecDepth 100000 in
set_option maxHeartbeats 4000000 in
theorem vright_14 (b d n e : Int) (w : World) (hA : decide (0 ≤ b ∧ b ≤ 6) = true) (hB : decide (0 ≤ d ∧ d ≤ 2) = true) (hN : (n == 0) = false) (hC : decide (2 ≤ n ∧ n ≤ 15) = true) (hD : decide (1 ≤ e ∧ e ≤ 15) = false) :
    Calls Tryd.prog 42 #[vl b d n e] w fun ed w' => ed = .returned (.bool false) ∧ Below w.heap.size w w' := by
  go_enter Tryd.func42, Tryd.ntmps42
  go_wp2_with (go_at_call 64; refine (vwithin_any _ _ _ _).mono ?_; rintro e w' ⟨rfl, rfl⟩; first | rw [hA] | rw [hB] | rw [hC] | rw [hD])
  go_ret
  exact ⟨rfl, (by repeat (first | exact Below.refl _ _ | refine below_drewN ?_ _ | refine Below.drew ?_ | refine Below.setCell ?_ (by simp <;> omega) _ | refine Below.alloc ?_ (by simp <;> omega) _))⟩

set_option maxRecDepth 100000 in
set_option maxHeartbeats 4000000 in
theorem vright_15 (b d n e : Int) (w : World) (hA : decide (0 ≤ b ∧ b ≤ 6) = true) (hB : decide (0 ≤ d ∧ d ≤ 2) = true) (hN : (n == 0) = false) (hC : decide (2 ≤ n ∧ n ≤ 15) = true) (hD : decide (1 ≤ e ∧ e ≤ 15) = true) (hX : (n != e) = false) :
    Calls Tryd.prog 42 #[vl b d n e] w fun ed w' => ed = .returned (.bool false) ∧ Below w.heap.size w w' := by
  go_enter Tryd.func42, Tryd.ntmps42
  go_wp2_with (go_at_call 64; refine (vwithin_any _ _ _ _).mono ?_; rintro e w' ⟨rfl, rfl⟩; first | rw [hA] | rw [hB] | rw [hC] | rw [hD])
  go_ret
  exact ⟨rfl, (by repeat (first | exact Below.refl _ _ | refine below_drewN ?_ _ | refine Below.drew ?_ | refine Below.setCell ?_ (by simp <;> omega) _ | refine Below.alloc ?_ (by simp <;> omega) _))⟩

set_option maxRecDepth 100000 in
set_option maxHeartbeats 4000000 in
theorem vright_16 (b d n e : Int) (w : World) (hA : decide (0 ≤ b ∧ b ≤ 6) = true) (hB : decide (0 ≤ d ∧ d ≤ 2) = true) (hN : (n == 0) = false) (hC : decide (2 ≤ n ∧ n ≤ 15) = true) (hD : decide (1 ≤ e ∧ e ≤ 15) = true) (hX : (n != e) = true) :
    Calls Tryd.prog 42 #[vl b d n e] w fun ed w' => ed = .returned (.bool true) ∧ Below w.heap.size w w' := by
  go_enter Tryd.func42, Tryd.ntmps42
  go_wp2_with (go_at_call 64; refine (vwithin_any _ _ _ _).mono ?_; rintro e w' ⟨rfl, rfl⟩; first | rw [hA] | rw [hB] | rw [hC] | rw [hD])
  go_ret
  exact ⟨rfl, (by repeat (first | exact Below.refl _ _ | refine below_drewN ?_ _ | refine Below.drew ?_ | refine Below.setCell ?_ (by simp <;> omega) _ | refine Below.alloc ?_ (by simp <;> omega) _))⟩

set_option maxRecDepth 100000 in
set_option maxHeartbeats 4000000 in
theorem vright_17 (b d n e : Int) (w : World) (hA : decide (0 ≤ b ∧ b ≤ 6) = true) (hB : decide (0 ≤ d ∧ d ≤ 2) = true) (hN : (n == 0) = true) (hE : (e == 0) = true) (hC : decide (2 ≤ n ∧ n ≤ 15) = false) :
    Calls Tryd.prog 42 #[vl b d n e] w fun ed w' => ed = .returned (.bool true) ∧ Below w.heap.size w w' := by
  go_enter Tryd.func42, Tryd.ntmps42
  go_wp2_with (go_at_call 64; refine (vwithin_any _ _ _ _).mono ?_; rintro e w' ⟨rfl, rfl⟩; first | rw [hA] | rw [hB] | rw [hC])
  go_ret
  exact ⟨rfl, (by repeat (first | exact Below.refl _ _ | refine below_drewN ?_ _ | refine Below.drew ?_ | refine Below.setCell ?_ (by simp <;> omega) _ | refine Below.alloc ?_ (by simp <;> omega) _))⟩

set_option maxRecDepth 100000 in
set_option maxHeartbeats 4000000 in
theorem vright_18 (b d n e : Int) (w : World) (hA : decide (0 ≤ b ∧ b ≤ 6) = true) (hB : decide (0 ≤ d ∧ d ≤ 2) = true) (hN : (n == 0) = true) (hE : (e == 0) = false) (hC : decide (2 ≤ n ∧ n ≤ 15) = false) :
    Calls Tryd.prog 42 #[vl b d n e] w fun ed w' => ed = .returned (.bool false) ∧ Below w.heap.size w w' := by
  go_enter Tryd.func42, Tryd.ntmps42
  go_wp2_with (go_at_call 64; refine (vwithin_any _ _ _ _).mono ?_; rintro e w' ⟨rfl, rfl⟩; first | rw [hA] | rw [hB] | rw [hC])
  go_ret
  exact ⟨rfl, (by repeat (first | exact Below.refl _ _ | refine below_drewN ?_ _ | refine Below.drew ?_ | refine Below.setCell ?_ (by simp <;> omega) _ | refine Below.alloc ?_ (by simp <;> omega) _))⟩

theorem vright_any (b d n e : Int) (w : World) :
    Calls Tryd.prog 42 #[vl b d n e] w fun e' w' => e' = .returned (.bool (Val.ok b d n e)) ∧ Below w.heap.size w w' := by
  have hok : Val.ok b d n e = ((decide (0 ≤ b ∧ b ≤ 6) && decide (0 ≤ d ∧ d ≤ 2)) && (((n == 0) && (e == 0)) || ((decide (2 ≤ n ∧ n ≤ 15) && decide (1 ≤ e ∧ e ≤ 15)) && (n != e)))) := by
    unfold Val.ok
    rw [Bool.eq_iff_iff]
    simp only [decide_eq_true_iff, Bool.and_eq_true, Bool.or_eq_true, beq_iff_eq, bne_iff_ne]
    omega
  have hNC : (n == 0) = true → decide (2 ≤ n ∧ n ≤ 15) = false := by intro h; simp at h; simp; omega
  rw [hok]
  cases hA : decide (0 ≤ b ∧ b ≤ 6) <;> cases hB : decide (0 ≤ d ∧ d ≤ 2) <;> cases hN : (n == 0) <;> cases hE : (e == 0) <;> cases hC : decide (2 ≤ n ∧ n ≤ 15) <;> cases hD : decide (1 ≤ e ∧ e ≤ 15) <;> cases hX : (n != e)
  all_goals first
    | exact absurd (hC.symm.trans (hNC hN)) (by decide)
    | exact vright_1 b d n e w hA hN hC
    | exact vright_2 b d n e w hA hN hC hD
    | exact vright_3 b d n e w hA hN hC hD hX
    | exact vright_4 b d n e w hA hN hC hD hX
    | exact vright_5 b d n e w hA hN hE hC
    | exact vright_6 b d n e w hA hN hE hC
    | exact vright_7 b d n e w hA hB hN hC
    | exact vright_8 b d n e w hA hB hN hC hD
    | exact vright_9 b d n e w hA hB hN hC hD hX
    | exact vright_10 b d n e w hA hB hN hC hD hX
    | exact vright_11 b d n e w hA hB hN hE hC
    | exact vright_12 b d n e w hA hB hN hE hC
    | exact vright_13 b d n e w hA hB hN hC
    | exact vright_14 b d n e w hA hB hN hC hD
    | exact vright_15 b d n e w hA hB hN hC hD hX
    | exact vright_16 b d n e w hA hB hN hC hD hX
    | exact vright_17 b d n e w hA hB hN hE hC
    | exact vright_18 b d n e w hA hB hN hE hC

set_option maxRecDepth 100000 in
set_option maxHeartbeats 4000000 in
theorem length_no (b d n e : Int) (w : World) (h : Val.ok b d n e = false) :
    Calls Tryd.prog 79 #[vl b d n e] w fun ed w' => ed = .returned (rv 0 0 40) ∧ Below w.heap.size w w' := by
  have hB0 : Below w.heap.size w w := Below.refl _ _
  go_enter Tryd.func79, Tryd.ntmps79
  go_wp2_with fail
  refine (vright_any b d n e _).mono ?_
  rintro e w1 ⟨rfl, hb1⟩
  have hs1 : Below w.heap.size w w1 := Below.trans (by repeat (first | exact Below.refl _ _ | refine Below.alloc ?_ (by simp <;> omega) _)) (hb1.mono (by simp <;> omega))
  have c_v_0 : w1.cell? ⟨w.heap.size, 0, none⟩ = some (.int .i64 b) := (hb1.cell (by simp <;> omega)).trans (by go_simp)
  have c_v_1 : w1.cell? ⟨w.heap.size, 1, none⟩ = some (.int .i64 d) := (hb1.cell (by simp <;> omega)).trans (by go_simp)
  have c_v_2 : w1.cell? ⟨w.heap.size, 2, none⟩ = some (.int .i64 n) := (hb1.cell (by simp <;> omega)).trans (by go_simp)
  have c_v_3 : w1.cell? ⟨w.heap.size, 3, none⟩ = some (.int .i64 e) := (hb1.cell (by simp <;> omega)).trans (by go_simp)
  have c_r_0 : w1.cell? ⟨w.heap.size + 1, 0, none⟩ = some (.int .i64 0) := (hb1.cell (by simp <;> omega)).trans (by go_simp)
  have f_r_0 : w1.frozen? ⟨w.heap.size + 1, 0, none⟩ = false := (hb1.frozen (by simp <;> omega)).trans (by go_simp)
  have c_r_1 : w1.cell? ⟨w.heap.size + 1, 1, none⟩ = some (.int .i64 0) := (hb1.cell (by simp <;> omega)).trans (by go_simp)
  have f_r_1 : w1.frozen? ⟨w.heap.size + 1, 1, none⟩ = false := (hb1.frozen (by simp <;> omega)).trans (by go_simp)
  have z_r := World.block_lt_of_cell? _ _ c_r_0
  have z_v := World.block_lt_of_cell? _ _ c_v_0
  have hB1 := below_two hB0 hs1
  clear hB0 hs1 hb1
  rw [h]
  obtain ⟨m0, m1⟩ := put2_of (x := .int .i64 0) (y := .int .i64 0) c_r_0 c_r_1
  go_wp2
  exact bodyPost_ret (v := rv 0 0 40) (by simp [results, Tryd.results79, go_sem, m0, m1]) rfl ⟨rfl, put2_below hB1 (by omega)⟩

set_option maxRecDepth 100000 in
set_option maxHeartbeats 4000000 in
theorem length_yes (b d n e x y t u p q N D : Int) (w : World) (hR : Ready w) (h : Val.ok b d n e = true) (b0 : 0 ≤ b) (b6 : b < 7) (d0 : 0 ≤ d) (d2 : d < 3) (HT : Hid (Val.tn n = t ∧ Val.te n e = u)) (HX : Hid (Val.ba b = x ∧ Val.dt d = y)) (hp : IntKind.i64.wrap (IntKind.i64.wrap (x * y) * u) = p) (hq' : IntKind.i64.wrap (256 * t) = q) (ip : Rat.I64 p) (iq : Rat.I64 q) (HN : Hid (Rat.ofN p q = N ∧ Rat.ofD p q = D ∧ Rat.ofE p q = 0)) :
    Calls Tryd.prog 79 #[vl b d n e] w fun ed w' => ed = .returned (rv N D 0) ∧ Below w.heap.size w w' := by
  have hB0 : Below w.heap.size w w := Below.refl _ _
  go_enter Tryd.func79, Tryd.ntmps79
  go_wp2_with fail
  have hR' := hR.below ((hB0.alloc hB0.size (.cells #[.int .i64 b, .int .i64 d, .int .i64 n, .int .i64 e] 49)).alloc (hB0.alloc hB0.size (.cells #[.int .i64 b, .int .i64 d, .int .i64 n, .int .i64 e] 49)).size (.cells #[.int .i64 0, .int .i64 0] 36))
  refine (vright_any b d n e _).mono ?_
  rintro e w1 ⟨rfl, hb1⟩
  clear hR'
  have hs1 : Below w.heap.size w w1 := Below.trans (by repeat (first | exact Below.refl _ _ | refine Below.alloc ?_ (by simp <;> omega) _)) (hb1.mono (by simp <;> omega))
  have c_v_0 : w1.cell? ⟨w.heap.size, 0, none⟩ = some (.int .i64 b) := (hb1.cell (by simp <;> omega)).trans (by go_simp)
  have c_v_1 : w1.cell? ⟨w.heap.size, 1, none⟩ = some (.int .i64 d) := (hb1.cell (by simp <;> omega)).trans (by go_simp)
  have c_v_2 : w1.cell? ⟨w.heap.size, 2, none⟩ = some (.int .i64 n) := (hb1.cell (by simp <;> omega)).trans (by go_simp)
  have c_v_3 : w1.cell? ⟨w.heap.size, 3, none⟩ = some (.int .i64 e) := (hb1.cell (by simp <;> omega)).trans (by go_simp)
  have c_r_0 : w1.cell? ⟨w.heap.size + 1, 0, none⟩ = some (.int .i64 0) := (hb1.cell (by simp <;> omega)).trans (by go_simp)
  have f_r_0 : w1.frozen? ⟨w.heap.size + 1, 0, none⟩ = false := (hb1.frozen (by simp <;> omega)).trans (by go_simp)
  have c_r_1 : w1.cell? ⟨w.heap.size + 1, 1, none⟩ = some (.int .i64 0) := (hb1.cell (by simp <;> omega)).trans (by go_simp)
  have f_r_1 : w1.frozen? ⟨w.heap.size + 1, 1, none⟩ = false := (hb1.frozen (by simp <;> omega)).trans (by go_simp)
  have z_r := World.block_lt_of_cell? _ _ c_r_0
  have z_v := World.block_lt_of_cell? _ _ c_v_0
  have hB1 := below_two hB0 hs1
  clear hB0 hs1 hb1
  rw [h]
  go_wp2_with fail
  have hR' := hR.below hB1
  refine (tuplet_any b d n e _).mono ?_
  rintro e w2 ⟨rfl, hb2⟩
  clear hR'
  have hs2 := hb2
  replace c_v_0 := cell_later hs2 c_v_0
  replace c_v_1 := cell_later hs2 c_v_1
  replace c_v_2 := cell_later hs2 c_v_2
  replace c_v_3 := cell_later hs2 c_v_3
  replace f_r_0 := frozen_later hs2 c_r_0 f_r_0
  replace c_r_0 := cell_later hs2 c_r_0
  replace f_r_1 := frozen_later hs2 c_r_1 f_r_1
  replace c_r_1 := cell_later hs2 c_r_1
  clear z_r
  have z_r := World.block_lt_of_cell? _ _ c_r_0
  clear z_v
  have z_v := World.block_lt_of_cell? _ _ c_v_0
  have hB2 := below_two hB1 hs2
  clear hB1 hs2
  rw [HT.out.1, HT.out.2]
  have c_ga_0 : w2.cell? ⟨3, b.toNat, none⟩ = some (.int .i64 x) := by have := (hR.below hB2).baseI b0 (by omega); rw [HX.out.1] at this; exact this
  have c_gb_0 : w2.cell? ⟨4, d.toNat, none⟩ = some (.int .i64 y) := by have := (hR.below hB2).dotI d0 (by omega); rw [HX.out.2] at this; exact this
  have zg := World.block_lt_of_cell? _ _ (hR.dot 0 (by decide))
  have z_ga := World.block_lt_of_cell? _ _ c_ga_0
  have z_gb := World.block_lt_of_cell? _ _ c_gb_0
  simp only at zg
  clear hR hb2 c_v_2 c_v_3
  go_wp2_with fail
  go_region_held3 (fun w' => w'.cell? ⟨w.heap.size, 0, none⟩ = some (.int .i64 b) ∧ w'.cell? ⟨w.heap.size, 1, none⟩ = some (.int .i64 d) ∧ w'.cell? ⟨w.heap.size + 1, 0, none⟩ = some (heldAt w' ⟨w.heap.size + 1, 0, none⟩) ∧ w'.frozen? ⟨w.heap.size + 1, 0, none⟩ = false ∧ w'.cell? ⟨w.heap.size + 1, 1, none⟩ = some (heldAt w' ⟨w.heap.size + 1, 1, none⟩) ∧ w'.frozen? ⟨w.heap.size + 1, 1, none⟩ = false ∧ w'.cell? ⟨3, b.toNat, none⟩ = some (.int .i64 x) ∧ w'.cell? ⟨4, d.toNat, none⟩ = some (.int .i64 y) ∧ Below w.heap.size w w')
    (((try go_split_ands); refine ⟨?_, ?_, ?_, ?_, ?_, ?_, ?_, ?_, ?_⟩ <;> first | with_reducible assumption | (with_reducible refine cell_later hq ?_; with_reducible assumption) | (with_reducible refine below_two ?_ hq; with_reducible assumption) | (with_reducible refine frozen_later (v := ?_) hq ?_ ?_; rotate_left; with_reducible assumption; with_reducible assumption) | (with_reducible refine held_later hq ?_; with_reducible assumption) | (with_reducible refine frozen_held hq ?_ ?_ <;> with_reducible assumption) | (with_reducible refine set_far ?_ (set_far ?_ ?_); omega; omega; with_reducible assumption) | (with_reducible refine set_held (set_held ?_); with_reducible assumption) | (with_reducible refine set_frozen (set_frozen ?_); with_reducible assumption) | (with_reducible refine put2_below ?_ ?_; with_reducible assumption; omega) | with_reducible exact cell_drew c_v_0 | with_reducible exact cell_drew c_v_1 | with_reducible exact held_drew (held_of c_r_0) | with_reducible exact frozen_drew f_r_0 | with_reducible exact held_drew (held_of c_r_1) | with_reducible exact frozen_drew f_r_1 | with_reducible exact cell_drew c_ga_0 | with_reducible exact cell_drew c_gb_0 | with_reducible exact hB2.drew))
    (first
      | (go_at_call 18; (try rw [hp]); (try rw [hq']); refine (of_any _ _ _ ip iq).mono ?_; rintro e w3 ⟨rfl, hq⟩; rw [HN.out.1, HN.out.2.1, HN.out.2.2]))
  rename_i hS
  clear c_v_0 c_v_1 c_r_0 c_r_1 c_ga_0 c_gb_0 f_r_0 f_r_1 hB2 z_r z_v z_ga z_gb
  obtain ⟨c_v_0, c_v_1, h_c_r_0, f_c_r_0, h_c_r_1, f_c_r_1, c_ga_0, c_gb_0, hB3⟩ := hS
  have z_ga := World.block_lt_of_cell? _ _ c_ga_0
  have z_gb := World.block_lt_of_cell? _ _ c_gb_0
  have z_v := World.block_lt_of_cell? _ _ c_v_0
  obtain ⟨m0, m1⟩ := put2_at h_c_r_0 h_c_r_1
  go_wp2
  exact bodyPost_ret (v := rv N D 0) (by simp [results, Tryd.results79, go_sem, m0, m1]) rfl ⟨rfl, hB3⟩

theorem length_any (b d n e : Int) (w : World) (hR : Ready w) :
    Calls Tryd.prog 79 #[vl b d n e] w fun ed w' => ed = .returned (rv (Val.lenN b d n e) (Val.lenD b d n e) (Val.lenE b d n e)) ∧ Below w.heap.size w w' := by
  unfold Val.lenN Val.lenD Val.lenE
  cases h : Val.ok b d n e
  · exact length_no b d n e w h
  · obtain ⟨b0, b6, d0, d2, hk⟩ := (Val.ok_iff _ _ _ _).1 h
    obtain ⟨l0, l1, l2, l3⟩ := Val.ln_bounds h
    have hbd := Val.bd_bounds b0 b6 d0 d2
    refine length_yes b d n e _ _ _ _ (Val.lnN b d n e) (Val.lnD n) _ _ w hR h b0 (by omega) d0 (by omega) (Lib.hid ⟨rfl, rfl⟩) (Lib.hid ⟨rfl, rfl⟩) ?_ ?_ ?_ ?_ (Lib.hid ⟨rfl, rfl, Val.len_ok h⟩)
    · rw [IntWalk.i64_in (Val.ba b * Val.dt d) (by omega)]; exact IntWalk.i64_in _ (by unfold Val.lnN at l0 l1; omega)
    · exact IntWalk.i64_in _ (by unfold Val.lnD at l2 l3; omega)
    · unfold Rat.I64; omega
    · unfold Rat.I64; omega

/-- Of a right value. -/
theorem length_right {b d n e x y : Int} (h : Val.ok b d n e = true) (hx : Val.lenN b d n e = x) (hy : Val.lenD b d n e = y) (w : World) (hR : Ready w) :
    Calls Tryd.prog 79 #[vl b d n e] w fun ed w' => ed = .returned (rv x y 0) ∧ Below w.heap.size w w' := by
  have := length_any b d n e w hR
  rw [hx, hy, show Val.lenE b d n e = 0 by unfold Val.lenE; rw [h]; rfl] at this
  exact this

/-- Are two values the same, field by field? -/
def eqV (a b c d x y z u : Int) : Bool := (a == x && b == y) && (c == z && d == u)

theorem eqV_iff (a b c d x y z u : Int) : eqV a b c d x y z u = true ↔ a = x ∧ b = y ∧ c = z ∧ d = u := by unfold eqV; simp; omega

theorem eqV_self (a b c d : Int) : eqV a b c d a b c d = true := (eqV_iff _ _ _ _ _ _ _ _).2 ⟨rfl, rfl, rfl, rfl⟩

theorem guardV : Tryd.prog.eqGuardType Tryd.prog.depth 49 = false := by kernel_rfl

theorem eql_vl (a b c d x y z u : Int) (w : World) : (binOp .eql 49 (vl a b c d) (vl x y z u)).run Tryd.prog w = .ok (.bool (eqV a b c d x y z u)) w := by
  have u3 := Tryd.underlying3
  have a3 := Tryd.isAgg3
  have z3 := Tryd.sizeOf3
  have hS : Tryd.prog.underlying 49 = some (.struct (Tryd.prog.fieldsOf 49)) := by kernel_rfl
  have hp : Tryd.prog.stoodInHeld 49 = false := by kernel_rfl
  rw [run_eql_struct, show (10000 : Nat) = 9999 + 1 from rfl, run_equalIn_agg w 9999 49 _ _ hS hp]
  simp only [Program.fieldsOf, Tryd.underlying49]
  go_simp
  unfold eqV
  by_cases h1 : a = x <;> by_cases h2 : b = y <;> by_cases h3 : c = z <;> by_cases h4 : d = u <;> simp [h1, h2, h3, h4]

theorem neq_vl (a b c d x y z u : Int) (w : World) : (binOp .neq 49 (vl a b c d) (vl x y z u)).run Tryd.prog w = .ok (.bool (!eqV a b c d x y z u)) w := by
  have u3 := Tryd.underlying3
  have a3 := Tryd.isAgg3
  have z3 := Tryd.sizeOf3
  have hS : Tryd.prog.underlying 49 = some (.struct (Tryd.prog.fieldsOf 49)) := by kernel_rfl
  have hp : Tryd.prog.stoodInHeld 49 = false := by kernel_rfl
  rw [run_neq_struct, show (10000 : Nat) = 9999 + 1 from rfl, run_equalIn_agg w 9999 49 _ _ hS hp]
  simp only [Program.fieldsOf, Tryd.underlying49]
  go_simp
  unfold eqV
  by_cases h1 : a = x <;> by_cases h2 : b = y <;> by_cases h3 : c = z <;> by_cases h4 : d = u <;> simp [h1, h2, h3, h4]
end Go.Proofs.YtobhmiknlbjmkaaDoor
