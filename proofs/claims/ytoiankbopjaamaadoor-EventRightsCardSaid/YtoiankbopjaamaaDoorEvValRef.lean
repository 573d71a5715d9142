/-
  Out of layer 4: the contracts of the reference's Right and Length.
-/
import Derived.Test.YtoiankbopjaamaaDoorEvVal
namespace Go.Proofs.YtoiankbopjaamaaDoor.Val
open Go.Proofs.YtoiankbopjaamaaDoor.Rat
/-- How many of a base a whole note has. -/
def bt (b : Int) : Int := 64 / ba b
theorem bt_bounds {b : Int} (h0 : 0 ≤ b) (h6 : b ≤ 6) : 1 ≤ bt b ∧ bt b ≤ 64 := by
  unfold bt; rcases ba_cases h0 h6 with ⟨_, e⟩ | ⟨_, e⟩ | ⟨_, e⟩ | ⟨_, e⟩ | ⟨_, e⟩ | ⟨_, e⟩ | ⟨_, e⟩ <;> rw [e] <;> decide
theorem len_small {b d n e : Int} (h : ok b d n e = true) : Small (lnN b d n e) (lnD n) ∧ lenN b d n e = ofN (lnN b d n e) (lnD n) ∧ lenD b d n e = ofD (lnN b d n e) (lnD n) := by
  have := ln_bounds h
  refine ⟨⟨by omega, by omega, by omega, by omega⟩, ?_, ?_⟩
  · unfold lenN; rw [h]; rfl
  · unfold lenD; rw [h]; rfl
end Go.Proofs.YtoiankbopjaamaaDoor.Val
namespace Go.Proofs.YtoiankbopjaamaaDoor
open Go.RowKit

set_option maxRecDepth 100000 in
set_option maxHeartbeats 4000000 in
theorem vrefRight_1 (b d n e : Int) (w : World) (h : b < 0) :
    Calls Tryd.prog 40 #[vl b d n e] w fun ed w' => ed = .returned (.bool false) ∧ Below w.heap.size w w' := by
  go_enter Tryd.func40, Tryd.ntmps40
  go_wp2
  go_ret
  exact ⟨rfl, (by repeat (first | exact Below.refl _ _ | refine below_drewN ?_ _ | refine Below.drew ?_ | refine Below.setCell ?_ (by simp <;> omega) _ | refine Below.alloc ?_ (by simp <;> omega) _))⟩

set_option maxRecDepth 100000 in
set_option maxHeartbeats 4000000 in
theorem vrefRight_2 (b d n e : Int) (w : World) (b0 : ¬ b < 0) (h : 6 < b) :
    Calls Tryd.prog 40 #[vl b d n e] w fun ed w' => ed = .returned (.bool false) ∧ Below w.heap.size w w' := by
  go_enter Tryd.func40, Tryd.ntmps40
  go_wp2
  go_ret
  exact ⟨rfl, (by repeat (first | exact Below.refl _ _ | refine below_drewN ?_ _ | refine Below.drew ?_ | refine Below.setCell ?_ (by simp <;> omega) _ | refine Below.alloc ?_ (by simp <;> omega) _))⟩

set_option maxRecDepth 100000 in
set_option maxHeartbeats 4000000 in
theorem vrefRight_3 (b d n e : Int) (w : World) (b0 : ¬ b < 0) (b6 : ¬ 6 < b) (h : d < 0) :
    Calls Tryd.prog 40 #[vl b d n e] w fun ed w' => ed = .returned (.bool false) ∧ Below w.heap.size w w' := by
  go_enter Tryd.func40, Tryd.ntmps40
  go_wp2
  go_ret
  exact ⟨rfl, (by repeat (first | exact Below.refl _ _ | refine below_drewN ?_ _ | refine Below.drew ?_ | refine Below.setCell ?_ (by simp <;> omega) _ | refine Below.alloc ?_ (by simp <;> omega) _))⟩

set_option maxRecDepth 100000 in
set_option maxHeartbeats 4000000 in
theorem vrefRight_4 (b d n e : Int) (w : World) (b0 : ¬ b < 0) (b6 : ¬ 6 < b) (d0 : ¬ d < 0) (h : 2 < d) :
    Calls Tryd.prog 40 #[vl b d n e] w fun ed w' => ed = .returned (.bool false) ∧ Below w.heap.size w w' := by
  go_enter Tryd.func40, Tryd.ntmps40
  go_wp2
  go_ret
  exact ⟨rfl, (by repeat (first | exact Below.refl _ _ | refine below_drewN ?_ _ | refine Below.drew ?_ | refine Below.setCell ?_ (by simp <;> omega) _ | refine Below.alloc ?_ (by simp <;> omega) _))⟩

set_option maxRecDepth 100000 in
set_option maxHeartbeats 4000000 in
theorem vrefRight_5 (b d n e : Int) (w : World) (b0 : ¬ b < 0) (b6 : ¬ 6 < b) (d0 : ¬ d < 0) (d2 : ¬ 2 < d) (hn : (n == 0) = true) (he : (e == 0) = true) :
    Calls Tryd.prog 40 #[vl b d n e] w fun ed w' => ed = .returned (.bool true) ∧ Below w.heap.size w w' := by
  go_enter Tryd.func40, Tryd.ntmps40
  go_wp2
  go_ret
  exact ⟨rfl, (by repeat (first | exact Below.refl _ _ | refine below_drewN ?_ _ | refine Below.drew ?_ | refine Below.setCell ?_ (by simp <;> omega) _ | refine Below.alloc ?_ (by simp <;> omega) _))⟩

set_option maxRecDepth 100000 in
set_option maxHeartbeats 4000000 in
theorem vrefRight_6 (b d n e : Int) (w : World) (b0 : ¬ b < 0) (b6 : ¬ 6 < b) (d0 : ¬ d < 0) (d2 : ¬ 2 < d) (hn : (n == 0) = true) (he : (e == 0) = false) (h : ¬ 2 ≤ n) :
    Calls Tryd.prog 40 #[vl b d n e] w fun ed w' => ed = .returned (.bool false) ∧ Below w.heap.size w w' := by
  go_enter Tryd.func40, Tryd.ntmps40
  go_wp2
  go_ret
  exact ⟨rfl, (by repeat (first | exact Below.refl _ _ | refine below_drewN ?_ _ | refine Below.drew ?_ | refine Below.setCell ?_ (by simp <;> omega) _ | refine Below.alloc ?_ (by simp <;> omega) _))⟩

set_option maxRecDepth 100000 in
set_option maxHeartbeats 4000000 in
theorem vrefRight_7 (b d n e : Int) (w : World) (b0 : ¬ b < 0) (b6 : ¬ 6 < b) (d0 : ¬ d < 0) (d2 : ¬ 2 < d) (hn : (n == 0) = false) (h : ¬ 2 ≤ n) :
    Calls Tryd.prog 40 #[vl b d n e] w fun ed w' => ed = .returned (.bool false) ∧ Below w.heap.size w w' := by
  go_enter Tryd.func40, Tryd.ntmps40
  go_wp2
  go_ret
  exact ⟨rfl, (by repeat (first | exact Below.refl _ _ | refine below_drewN ?_ _ | refine Below.drew ?_ | refine Below.setCell ?_ (by simp <;> omega) _ | refine Below.alloc ?_ (by simp <;> omega) _))⟩

set_option maxRecDepth 100000 in
set_option maxHeartbeats 4000000 in
theorem vrefRight_8 (b d n e : Int) (w : World) (b0 : ¬ b < 0) (b6 : ¬ 6 < b) (d0 : ¬ d < 0) (d2 : ¬ 2 < d) (hn : (n == 0) = false) (n2 : 2 ≤ n) (h : ¬ n ≤ 15) :
    Calls Tryd.prog 40 #[vl b d n e] w fun ed w' => ed = .returned (.bool false) ∧ Below w.heap.size w w' := by
  go_enter Tryd.func40, Tryd.ntmps40
  go_wp2
  go_ret
  exact ⟨rfl, (by repeat (first | exact Below.refl _ _ | refine below_drewN ?_ _ | refine Below.drew ?_ | refine Below.setCell ?_ (by simp <;> omega) _ | refine Below.alloc ?_ (by simp <;> omega) _))⟩

set_option maxRecDepth 100000 in
set_option maxHeartbeats 4000000 in
theorem vrefRight_9 (b d n e : Int) (w : World) (b0 : ¬ b < 0) (b6 : ¬ 6 < b) (d0 : ¬ d < 0) (d2 : ¬ 2 < d) (hn : (n == 0) = false) (n2 : 2 ≤ n) (n15 : n ≤ 15) (h : ¬ 1 ≤ e) :
    Calls Tryd.prog 40 #[vl b d n e] w fun ed w' => ed = .returned (.bool false) ∧ Below w.heap.size w w' := by
  go_enter Tryd.func40, Tryd.ntmps40
  go_wp2
  go_ret
  exact ⟨rfl, (by repeat (first | exact Below.refl _ _ | refine below_drewN ?_ _ | refine Below.drew ?_ | refine Below.setCell ?_ (by simp <;> omega) _ | refine Below.alloc ?_ (by simp <;> omega) _))⟩

set_option maxRecDepth 100000 in
set_option maxHeartbeats 4000000 in
theorem vrefRight_10 (b d n e : Int) (w : World) (b0 : ¬ b < 0) (b6 : ¬ 6 < b) (d0 : ¬ d < 0) (d2 : ¬ 2 < d) (hn : (n == 0) = false) (n2 : 2 ≤ n) (n15 : n ≤ 15) (e1 : 1 ≤ e) (h : ¬ e ≤ 15) :
    Calls Tryd.prog 40 #[vl b d n e] w fun ed w' => ed = .returned (.bool false) ∧ Below w.heap.size w w' := by
  go_enter Tryd.func40, Tryd.ntmps40
  go_wp2
  go_ret
  exact ⟨rfl, (by repeat (first | exact Below.refl _ _ | refine below_drewN ?_ _ | refine Below.drew ?_ | refine Below.setCell ?_ (by simp <;> omega) _ | refine Below.alloc ?_ (by simp <;> omega) _))⟩

set_option maxRecDepth 100000 in
set_option maxHeartbeats 4000000 in
theorem vrefRight_11 (b d n e : Int) (w : World) (b0 : ¬ b < 0) (b6 : ¬ 6 < b) (d0 : ¬ d < 0) (d2 : ¬ 2 < d) (hn : (n == 0) = false) (n2 : 2 ≤ n) (n15 : n ≤ 15) (e1 : 1 ≤ e) (e15 : e ≤ 15) (h : (n != e) = false) :
    Calls Tryd.prog 40 #[vl b d n e] w fun ed w' => ed = .returned (.bool false) ∧ Below w.heap.size w w' := by
  go_enter Tryd.func40, Tryd.ntmps40
  go_wp2
  go_ret
  exact ⟨rfl, (by repeat (first | exact Below.refl _ _ | refine below_drewN ?_ _ | refine Below.drew ?_ | refine Below.setCell ?_ (by simp <;> omega) _ | refine Below.alloc ?_ (by simp <;> omega) _))⟩

set_option maxRecDepth 100000 in
set_option maxHeartbeats 4000000 in
theorem vrefRight_12 (b d n e : Int) (w : World) (b0 : ¬ b < 0) (b6 : ¬ 6 < b) (d0 : ¬ d < 0) (d2 : ¬ 2 < d) (hn : (n == 0) = false) (n2 : 2 ≤ n) (n15 : n ≤ 15) (e1 : 1 ≤ e) (e15 : e ≤ 15) (h : (n != e) = true) :
    Calls Tryd.prog 40 #[vl b d n e] w fun ed w' => ed = .returned (.bool true) ∧ Below w.heap.size w w' := by
  go_enter Tryd.func40, Tryd.ntmps40
  go_wp2
  go_ret
  exact ⟨rfl, (by repeat (first | exact Below.refl _ _ | refine below_drewN ?_ _ | refine Below.drew ?_ | refine Below.setCell ?_ (by simp <;> omega) _ | refine Below.alloc ?_ (by simp <;> omega) _))⟩

theorem vrefRight_any (b d n e : Int) (w : World) :
    Calls Tryd.prog 40 #[vl b d n e] w fun ed w' => ed = .returned (.bool (Val.ok b d n e)) ∧ Below w.heap.size w w' := by
  by_cases h1 : b < 0
  · rw [Val.ok_false (by omega)]; exact vrefRight_1 b d n e w h1
  by_cases h2 : 6 < b
  · rw [Val.ok_false (by omega)]; exact vrefRight_2 b d n e w h1 h2
  by_cases h3 : d < 0
  · rw [Val.ok_false (by omega)]; exact vrefRight_3 b d n e w h1 h2 h3
  by_cases h4 : 2 < d
  · rw [Val.ok_false (by omega)]; exact vrefRight_4 b d n e w h1 h2 h3 h4
  by_cases hn : n = 0
  · by_cases he : e = 0
    · rw [(Val.ok_iff b d n e).2 (by omega)]; exact vrefRight_5 b d n e w h1 h2 h3 h4 (by simpa using hn) (by simpa using he)
    · rw [Val.ok_false (by omega)]; exact vrefRight_6 b d n e w h1 h2 h3 h4 (by simpa using hn) (by simpa using he) (by omega)
  have hn' : (n == 0) = false := by simpa using hn
  by_cases h5 : 2 ≤ n
  · by_cases h6 : n ≤ 15
    · by_cases h7 : 1 ≤ e
      · by_cases h8 : e ≤ 15
        · by_cases h9 : n = e
          · rw [Val.ok_false (by omega)]; exact vrefRight_11 b d n e w h1 h2 h3 h4 hn' h5 h6 h7 h8 (by simpa using h9)
          · rw [(Val.ok_iff b d n e).2 (by omega)]; exact vrefRight_12 b d n e w h1 h2 h3 h4 hn' h5 h6 h7 h8 (by simpa using h9)
        · rw [Val.ok_false (by omega)]; exact vrefRight_10 b d n e w h1 h2 h3 h4 hn' h5 h6 h7 h8
      · rw [Val.ok_false (by omega)]; exact vrefRight_9 b d n e w h1 h2 h3 h4 hn' h5 h6 h7
    · rw [Val.ok_false (by omega)]; exact vrefRight_8 b d n e w h1 h2 h3 h4 hn' h5 h6
  · rw [Val.ok_false (by omega)]; exact vrefRight_7 b d n e w h1 h2 h3 h4 hn' h5

set_option maxRecDepth 100000 in
set_option maxHeartbeats 4000000 in
theorem power_0 (w : World) : Calls Tryd.prog 68 #[.int .i64 0] w fun ed w' => ed = .returned (.int .i64 1) ∧ w = w' := by
  go_enter Tryd.func68, Tryd.ntmps68
  go_wp2
  refine wp_loop_rounds 1 ?_
  rw [rounds_succ]
  go_wp2
  go_ret
  exact ⟨rfl, rfl⟩

set_option maxRecDepth 100000 in
set_option maxHeartbeats 4000000 in
theorem power_1 (w : World) : Calls Tryd.prog 68 #[.int .i64 1] w fun ed w' => ed = .returned (.int .i64 2) ∧ w = w' := by
  go_enter Tryd.func68, Tryd.ntmps68
  go_wp2
  refine wp_loop_rounds 2 ?_
  rw [rounds_succ]
  go_wp2
  rw [rounds_succ]
  go_wp2
  go_ret
  exact ⟨rfl, rfl⟩

set_option maxRecDepth 100000 in
set_option maxHeartbeats 4000000 in
theorem power_2 (w : World) : Calls Tryd.prog 68 #[.int .i64 2] w fun ed w' => ed = .returned (.int .i64 4) ∧ w = w' := by
  go_enter Tryd.func68, Tryd.ntmps68
  go_wp2
  refine wp_loop_rounds 3 ?_
  rw [rounds_succ]
  go_wp2
  rw [rounds_succ]
  go_wp2
  rw [rounds_succ]
  go_wp2
  go_ret
  exact ⟨rfl, rfl⟩

set_option maxRecDepth 100000 in
set_option maxHeartbeats 4000000 in
theorem power_3 (w : World) : Calls Tryd.prog 68 #[.int .i64 3] w fun ed w' => ed = .returned (.int .i64 8) ∧ w = w' := by
  go_enter Tryd.func68, Tryd.ntmps68
  go_wp2
  refine wp_loop_rounds 4 ?_
  rw [rounds_succ]
  go_wp2
  rw [rounds_succ]
  go_wp2
  rw [rounds_succ]
  go_wp2
  rw [rounds_succ]
  go_wp2
  go_ret
  exact ⟨rfl, rfl⟩

set_option maxRecDepth 100000 in
set_option maxHeartbeats 4000000 in
theorem power_4 (w : World) : Calls Tryd.prog 68 #[.int .i64 4] w fun ed w' => ed = .returned (.int .i64 16) ∧ w = w' := by
  go_enter Tryd.func68, Tryd.ntmps68
  go_wp2
  refine wp_loop_rounds 5 ?_
  rw [rounds_succ]
  go_wp2
  rw [rounds_succ]
  go_wp2
  rw [rounds_succ]
  go_wp2
  rw [rounds_succ]
  go_wp2
  rw [rounds_succ]
  go_wp2
  go_ret
  exact ⟨rfl, rfl⟩

set_option maxRecDepth 100000 in
set_option maxHeartbeats 4000000 in
theorem power_5 (w : World) : Calls Tryd.prog 68 #[.int .i64 5] w fun ed w' => ed = .returned (.int .i64 32) ∧ w = w' := by
  go_enter Tryd.func68, Tryd.ntmps68
  go_wp2
  refine wp_loop_rounds 6 ?_
  rw [rounds_succ]
  go_wp2
  rw [rounds_succ]
  go_wp2
  rw [rounds_succ]
  go_wp2
  rw [rounds_succ]
  go_wp2
  rw [rounds_succ]
  go_wp2
  rw [rounds_succ]
  go_wp2
  go_ret
  exact ⟨rfl, rfl⟩

set_option maxRecDepth 100000 in
set_option maxHeartbeats 4000000 in
theorem power_6 (w : World) : Calls Tryd.prog 68 #[.int .i64 6] w fun ed w' => ed = .returned (.int .i64 64) ∧ w = w' := by
  go_enter Tryd.func68, Tryd.ntmps68
  go_wp2
  refine wp_loop_rounds 7 ?_
  rw [rounds_succ]
  go_wp2
  rw [rounds_succ]
  go_wp2
  rw [rounds_succ]
  go_wp2
  rw [rounds_succ]
  go_wp2
  rw [rounds_succ]
  go_wp2
  rw [rounds_succ]
  go_wp2
  rw [rounds_succ]
  go_wp2
  go_ret
  exact ⟨rfl, rfl⟩

theorem power_any {b : Int} (h0 : 0 ≤ b) (h6 : b ≤ 6) (w : World) : Calls Tryd.prog 68 #[.int .i64 b] w fun ed w' => ed = .returned (.int .i64 (Val.bt b)) ∧ w = w' := by
  obtain rfl | rfl | rfl | rfl | rfl | rfl | rfl : b = 0 ∨ b = 1 ∨ b = 2 ∨ b = 3 ∨ b = 4 ∨ b = 5 ∨ b = 6 := by omega
  · exact power_0 w
  · exact power_1 w
  · exact power_2 w
  · exact power_3 w
  · exact power_4 w
  · exact power_5 w
  · exact power_6 w

theorem power_q (b : Int) (w : World) (k : Nat) (h0 : 0 ≤ b) (h6 : b ≤ 6) :
    Calls Tryd.prog 68 #[.int .i64 b] (w.drewN k) fun e w' => e = .returned (.int .i64 (Val.bt b)) ∧ ∃ m, w' = w.drewN m :=
  (power_any h0 h6 _).mono fun _ _ ⟨he, hw⟩ => ⟨he, k, hw.symm⟩

set_option maxRecDepth 100000 in
set_option maxHeartbeats 4000000 in
theorem vrefLength_no (b d n e : Int) (w : World) (h : Val.ok b d n e = false) :
    Calls Tryd.prog 35 #[vl b d n e] w fun ed w' => ed = .returned (rv 0 0 40) ∧ Below w.heap.size w w' := by
  have hB0 : Below w.heap.size w w := Below.refl _ _
  go_enter Tryd.func35, Tryd.ntmps35
  go_wp2_with fail
  refine (vrefRight_any b d n e _).mono ?_
  rintro e w1 ⟨rfl, hb1⟩
  have hs1 : Below w.heap.size w w1 := Below.trans (by repeat (first | exact Below.refl _ _ | refine Below.alloc ?_ (by simp <;> omega) _)) (hb1.mono (by simp <;> omega))
  have c_v_0 : w1.cell? ⟨w.heap.size, 0, none⟩ = some (.int .i64 b) := (hb1.cell (by simp <;> omega)).trans (by go_simp)
  have c_v_1 : w1.cell? ⟨w.heap.size, 1, none⟩ = some (.int .i64 d) := (hb1.cell (by simp <;> omega)).trans (by go_simp)
  have c_v_2 : w1.cell? ⟨w.heap.size, 2, none⟩ = some (.int .i64 n) := (hb1.cell (by simp <;> omega)).trans (by go_simp)
  have c_v_3 : w1.cell? ⟨w.heap.size, 3, none⟩ = some (.int .i64 e) := (hb1.cell (by simp <;> omega)).trans (by go_simp)
  have c_r_0 : w1.cell? ⟨w.heap.size + 1, 0, none⟩ = some (.int .i64 0) := (hb1.cell (by simp <;> omega)).trans (by go_simp)
  have f_r_0 : w1.frozen? ⟨w.heap.size + 1, 0, none⟩ = false := (hb1.frozen (by simp <;> omega)).trans (by go_simp)
  have c_r_1 : w1.cell? ⟨w.heap.size + 1, 1, none⟩ = some (.int .i64 0) := (hb1.cell (by simp <;> omega)).trans (by go_simp)
  have f_r_1 : w1.frozen? ⟨w.heap.size + 1, 1, none⟩ = false := (hb1.frozen (by simp <;> omega)).trans (by go_simp)
  have z_r := World.block_lt_of_cell? _ _ c_r_0
  have z_v := World.block_lt_of_cell? _ _ c_v_0
  have hB1 := below_two hB0 hs1
  clear hB0 hs1 hb1
  rw [h]
  obtain ⟨m0, m1⟩ := put2_of (x := .int .i64 0) (y := .int .i64 0) c_r_0 c_r_1
  go_wp2
  exact bodyPost_ret (v := rv 0 0 40) (by simp [results, Tryd.results35, go_sem, m0, m1]) rfl ⟨rfl, put2_below hB1 (by omega)⟩

set_option maxRecDepth 100000 in
set_option maxHeartbeats 4000000 in
theorem vrefLength_plain (b d n e x y z N1 D1 P Q : Int) (w : World) (h : Val.ok b d n e = true) (b0 : 0 ≤ b) (b6 : b ≤ 6) (d0 : 0 ≤ d) (d6 : d ≤ 6) (t : Int) (ht : IntKind.i64.wrap (d + 1) = t) (t0 : 0 ≤ t) (t6 : t ≤ 6) (HX : Hid (Val.bt t = x ∧ Val.bt b = y ∧ Val.bt d = z)) (hN : IntKind.i64.wrap (x - 1) = N1) (hD : IntKind.i64.wrap (y * z) = D1) (hn : ¬ 0 < n) (i1 : Rat.I64 N1) (i2 : Rat.I64 D1) (HO : Hid (Rat.ofN N1 D1 = P ∧ Rat.ofD N1 D1 = Q ∧ Rat.ofE N1 D1 = 0)) :
    Calls Tryd.prog 35 #[vl b d n e] w fun ed w' => ed = .returned (rv P Q 0) ∧ Below w.heap.size w w' := by
  have hB0 : Below w.heap.size w w := Below.refl _ _
  go_enter Tryd.func35, Tryd.ntmps35
  go_wp2_with fail
  refine (vrefRight_any b d n e _).mono ?_
  rintro e w1 ⟨rfl, hb1⟩
  have hs1 : Below w.heap.size w w1 := Below.trans (by repeat (first | exact Below.refl _ _ | refine Below.alloc ?_ (by simp <;> omega) _)) (hb1.mono (by simp <;> omega))
  have c_v_0 : w1.cell? ⟨w.heap.size, 0, none⟩ = some (.int .i64 b) := (hb1.cell (by simp <;> omega)).trans (by go_simp)
  have c_v_1 : w1.cell? ⟨w.heap.size, 1, none⟩ = some (.int .i64 d) := (hb1.cell (by simp <;> omega)).trans (by go_simp)
  have c_v_2 : w1.cell? ⟨w.heap.size, 2, none⟩ = some (.int .i64 n) := (hb1.cell (by simp <;> omega)).trans (by go_simp)
  have c_v_3 : w1.cell? ⟨w.heap.size, 3, none⟩ = some (.int .i64 e) := (hb1.cell (by simp <;> omega)).trans (by go_simp)
  have c_r_0 : w1.cell? ⟨w.heap.size + 1, 0, none⟩ = some (.int .i64 0) := (hb1.cell (by simp <;> omega)).trans (by go_simp)
  have f_r_0 : w1.frozen? ⟨w.heap.size + 1, 0, none⟩ = false := (hb1.frozen (by simp <;> omega)).trans (by go_simp)
  have c_r_1 : w1.cell? ⟨w.heap.size + 1, 1, none⟩ = some (.int .i64 0) := (hb1.cell (by simp <;> omega)).trans (by go_simp)
  have f_r_1 : w1.frozen? ⟨w.heap.size + 1, 1, none⟩ = false := (hb1.frozen (by simp <;> omega)).trans (by go_simp)
  have z_r := World.block_lt_of_cell? _ _ c_r_0
  have z_v := World.block_lt_of_cell? _ _ c_v_0
  have hB1 := below_two hB0 hs1
  clear hB0 hs1 hb1
  rw [h]
  go_wp2_with fail
  refine (power_any t0 t6 _).mono ?_
  rintro e wx ⟨rfl, rfl⟩
  rw [HX.out.1]
  have hy := HX.out.2.1
  have hz := HX.out.2.2
  go_wp2_with fail
  go_quiet ((go_at_call 68; first | exact power_q _ _ _ b0 b6 | exact power_q _ _ _ d0 d6))
  rw [hy, hz]
  go_wp2_with fail
  refine (refOf_any _ _ _ i1 i2).mono ?_
  rintro ed w2 ⟨rfl, hb2⟩
  rw [HO.out.1, HO.out.2.1, HO.out.2.2]
  have hs2 : Below w1.heap.size w1 w2 := (below_drewN (Below.refl _ _) nq).trans hb2
  have e0 := cell_later hs2 c_r_0
  have e1 := cell_later hs2 c_r_1
  have g0 := frozen_later hs2 c_r_0 f_r_0
  have g1 := frozen_later hs2 c_r_1 f_r_1
  have hB2 := below_two hB1 hs2
  clear hb2 hs2
  obtain ⟨m0, m1⟩ := put2_of (x := .int .i64 P) (y := .int .i64 Q) e0 e1
  go_wp2
  exact bodyPost_ret (v := rv P Q 0) (by simp [results, Tryd.results35, go_sem, m0, m1]) rfl ⟨rfl, put2_below hB2 (by omega)⟩

set_option maxRecDepth 100000 in
set_option maxHeartbeats 4000000 in
theorem vrefLength_tup (b d n e x y z N1 D1 P Q : Int) (w : World) (h : Val.ok b d n e = true) (b0 : 0 ≤ b) (b6 : b ≤ 6) (d0 : 0 ≤ d) (d6 : d ≤ 6) (t : Int) (ht : IntKind.i64.wrap (d + 1) = t) (t0 : 0 ≤ t) (t6 : t ≤ 6) (HX : Hid (Val.bt t = x ∧ Val.bt b = y ∧ Val.bt d = z)) (hN : IntKind.i64.wrap (x - 1) = N1) (hD : IntKind.i64.wrap (y * z) = D1) (hn : 0 < n) (N2 D2 : Int) (hN2 : IntKind.i64.wrap (N1 * e) = N2) (hD2 : IntKind.i64.wrap (D1 * n) = D2) (i1 : Rat.I64 N2) (i2 : Rat.I64 D2) (HO : Hid (Rat.ofN N2 D2 = P ∧ Rat.ofD N2 D2 = Q ∧ Rat.ofE N2 D2 = 0)) :
    Calls Tryd.prog 35 #[vl b d n e] w fun ed w' => ed = .returned (rv P Q 0) ∧ Below w.heap.size w w' := by
  have hB0 : Below w.heap.size w w := Below.refl _ _
  go_enter Tryd.func35, Tryd.ntmps35
  go_wp2_with fail
  refine (vrefRight_any b d n e _).mono ?_
  rintro e w1 ⟨rfl, hb1⟩
  have hs1 : Below w.heap.size w w1 := Below.trans (by repeat (first | exact Below.refl _ _ | refine Below.alloc ?_ (by simp <;> omega) _)) (hb1.mono (by simp <;> omega))
  have c_v_0 : w1.cell? ⟨w.heap.size, 0, none⟩ = some (.int .i64 b) := (hb1.cell (by simp <;> omega)).trans (by go_simp)
  have c_v_1 : w1.cell? ⟨w.heap.size, 1, none⟩ = some (.int .i64 d) := (hb1.cell (by simp <;> omega)).trans (by go_simp)
  have c_v_2 : w1.cell? ⟨w.heap.size, 2, none⟩ = some (.int .i64 n) := (hb1.cell (by simp <;> omega)).trans (by go_simp)
  have c_v_3 : w1.cell? ⟨w.heap.size, 3, none⟩ = some (.int .i64 e) := (hb1.cell (by simp <;> omega)).trans (by go_simp)
  have c_r_0 : w1.cell? ⟨w.heap.size + 1, 0, none⟩ = some (.int .i64 0) := (hb1.cell (by simp <;> omega)).trans (by go_simp)
  have f_r_0 : w1.frozen? ⟨w.heap.size + 1, 0, none⟩ = false := (hb1.frozen (by simp <;> omega)).trans (by go_simp)
  have c_r_1 : w1.cell? ⟨w.heap.size + 1, 1, none⟩ = some (.int .i64 0) := (hb1.cell (by simp <;> omega)).trans (by go_simp)
  have f_r_1 : w1.frozen? ⟨w.heap.size + 1, 1, none⟩ = false := (hb1.frozen (by simp <;> omega)).trans (by go_simp)
  have z_r := World.block_lt_of_cell? _ _ c_r_0
  have z_v := World.block_lt_of_cell? _ _ c_v_0
  have hB1 := below_two hB0 hs1
  clear hB0 hs1 hb1
  rw [h]
  go_wp2_with fail
  refine (power_any t0 t6 _).mono ?_
  rintro e wx ⟨rfl, rfl⟩
  rw [HX.out.1]
  have hy := HX.out.2.1
  have hz := HX.out.2.2
  go_wp2_with fail
  go_quiet ((go_at_call 68; first | exact power_q _ _ _ b0 b6 | exact power_q _ _ _ d0 d6))
  rw [hy, hz]
  go_wp2_with fail
  refine (refOf_any _ _ _ i1 i2).mono ?_
  rintro ed w2 ⟨rfl, hb2⟩
  rw [HO.out.1, HO.out.2.1, HO.out.2.2]
  have hs2 : Below w1.heap.size w1 w2 := (below_drewN (Below.refl _ _) nq).trans hb2
  have e0 := cell_later hs2 c_r_0
  have e1 := cell_later hs2 c_r_1
  have g0 := frozen_later hs2 c_r_0 f_r_0
  have g1 := frozen_later hs2 c_r_1 f_r_1
  have hB2 := below_two hB1 hs2
  clear hb2 hs2
  obtain ⟨m0, m1⟩ := put2_of (x := .int .i64 P) (y := .int .i64 Q) e0 e1
  go_wp2
  exact bodyPost_ret (v := rv P Q 0) (by simp [results, Tryd.results35, go_sem, m0, m1]) rfl ⟨rfl, put2_below hB2 (by omega)⟩

theorem bt_cases {b : Int} (h0 : 0 ≤ b) (h6 : b ≤ 6) : Val.bt b * Val.ba b = 64 := by
  obtain rfl | rfl | rfl | rfl | rfl | rfl | rfl : b = 0 ∨ b = 1 ∨ b = 2 ∨ b = 3 ∨ b = 4 ∨ b = 5 ∨ b = 6 := by omega
  all_goals decide

theorem dt_cases' {d : Int} (h0 : 0 ≤ d) (h2 : d ≤ 2) : Val.dt d * Val.bt d = 4 * (Val.bt (d + 1) - 1) ∧ 1 ≤ Val.bt d ∧ Val.bt d ≤ 4 ∧ 2 ≤ Val.bt (d + 1) ∧ Val.bt (d + 1) ≤ 8 := by
  obtain rfl | rfl | rfl : d = 0 ∨ d = 1 ∨ d = 2 := by omega
  all_goals decide

theorem vrefLength_any (b d n e : Int) (w : World) :
    Calls Tryd.prog 35 #[vl b d n e] w fun ed w' => ed = .returned (rv (Val.lenN b d n e) (Val.lenD b d n e) (Val.lenE b d n e)) ∧ Below w.heap.size w w' := by
  cases h : Val.ok b d n e
  · unfold Val.lenN Val.lenD Val.lenE; rw [h]; exact vrefLength_no b d n e w h
  · obtain ⟨s, e1, e2⟩ := Val.len_small h
    rw [e1, e2, show Val.lenE b d n e = 0 by unfold Val.lenE; rw [h]; rfl]
    obtain ⟨b0, b6, d0, d2, hk⟩ := (Val.ok_iff _ _ _ _).1 h
    have hb := Val.bt_bounds b0 b6
    have hbb := bt_cases b0 b6
    obtain ⟨hd, q1, q2, q3, q4⟩ := dt_cases' d0 d2
    have hz : 1 ≤ Val.bt b * Val.bt d ∧ Val.bt b * Val.bt d ≤ 256 := by
      have h1 : Val.bt b * 1 ≤ Val.bt b * Val.bt d := Int.mul_le_mul_of_nonneg_left q1 (by omega)
      have h2 : Val.bt b * Val.bt d ≤ Val.bt b * 4 := Int.mul_le_mul_of_nonneg_left q2 (by omega)
      omega
    have key : Val.ba b * Val.dt d * (Val.bt b * Val.bt d) = 256 * (Val.bt (d + 1) - 1) := by
      have : Val.ba b * Val.dt d * (Val.bt b * Val.bt d) = (Val.bt b * Val.ba b) * (Val.dt d * Val.bt d) := by grind
      rw [this, hbb, hd]; omega
    have hN : IntKind.i64.wrap (Val.bt (d + 1) - 1) = Val.bt (d + 1) - 1 := IntWalk.i64_in _ (by omega)
    have hD : IntKind.i64.wrap (Val.bt b * Val.bt d) = Val.bt b * Val.bt d := IntWalk.i64_in _ (by omega)
    have ht : IntKind.i64.wrap (d + 1) = d + 1 := IntWalk.i64_in _ (by omega)
    rcases hk with ⟨rfl, rfl⟩ | ⟨n2, n15, f1, f15, _⟩
    · have s2 : Val.Small (Val.bt (d + 1) - 1) (Val.bt b * Val.bt d) := ⟨by omega, by omega, by omega, by omega⟩
      have hs := Val.same_of s s2 (by unfold Val.lnN Val.lnD Val.te Val.tn; rw [if_pos rfl, Int.mul_one, Int.mul_one, key]; omega)
      exact vrefLength_plain b d 0 0 _ _ _ _ _ _ _ w h b0 b6 d0 (by omega) (d + 1) ht (by omega) (by omega) (Lib.hid ⟨rfl, rfl, rfl⟩) hN hD (by omega) (by unfold Rat.I64; omega) (by unfold Rat.I64; omega) (Lib.hid ⟨hs.1.symm, hs.2.symm, s2.err⟩)
    · have hp : 0 ≤ (Val.bt (d + 1) - 1) * e ∧ (Val.bt (d + 1) - 1) * e ≤ 105 := by
        have h1 : (Val.bt (d + 1) - 1) * e ≤ (Val.bt (d + 1) - 1) * 15 := Int.mul_le_mul_of_nonneg_left f15 (by omega)
        have h2 : 0 ≤ (Val.bt (d + 1) - 1) * e := Int.mul_nonneg (by omega) (by omega)
        omega
      have hq : 1 ≤ Val.bt b * Val.bt d * n ∧ Val.bt b * Val.bt d * n ≤ 3840 := by
        have h1 : Val.bt b * Val.bt d * 1 ≤ Val.bt b * Val.bt d * n := Int.mul_le_mul_of_nonneg_left (by omega) (by omega)
        have h2 : Val.bt b * Val.bt d * n ≤ Val.bt b * Val.bt d * 15 := Int.mul_le_mul_of_nonneg_left n15 (by omega)
        omega
      have s2 : Val.Small ((Val.bt (d + 1) - 1) * e) (Val.bt b * Val.bt d * n) := ⟨by omega, by omega, by omega, by omega⟩
      have hs := Val.same_of s s2 (by
        unfold Val.lnN Val.lnD Val.te Val.tn
        rw [if_neg (by omega), if_neg (by omega)]
        have : Val.ba b * Val.dt d * e * (Val.bt b * Val.bt d * n) = (Val.ba b * Val.dt d * (Val.bt b * Val.bt d)) * (e * n) := by grind
        rw [this, key]; grind)
      exact vrefLength_tup b d n e _ _ _ _ _ _ _ w h b0 b6 d0 (by omega) (d + 1) ht (by omega) (by omega) (Lib.hid ⟨rfl, rfl, rfl⟩) hN hD (by omega) _ _ (IntWalk.i64_in _ (by omega)) (IntWalk.i64_in _ (by omega)) (by unfold Rat.I64; omega) (by unfold Rat.I64; omega) (Lib.hid ⟨hs.1.symm, hs.2.symm, s2.err⟩)
end Go.Proofs.YtoiankbopjaamaaDoor
