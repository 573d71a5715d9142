/-
  Out of layer 4: the contracts of the reference's Right and Length.
-/
import Derived.Test.YtnfnonlbokddfaaDoorEvVal
namespace Go.Proofs.YtnfnonlbokddfaaDoor.Val
open Go.Proofs.YtnfnonlbokddfaaDoor.Rat
/-- How many of a base a whole note has. -/
def bt (b : Int) : Int := 64 / ba b
theorem bt_bounds {b : Int} (h0 : 0 ≤ b) (h6 : b ≤ 6) : 1 ≤ bt b ∧ bt b ≤ 64 := by
  unfold bt; rcases ba_cases h0 h6 with ⟨_, e⟩ | ⟨_, e⟩ | ⟨_, e⟩ | ⟨_, e⟩ | ⟨_, e⟩ | ⟨_, e⟩ | ⟨_, e⟩ <;> rw [e] <;> decide
theorem len_small {b d n e : Int} (h : ok b d n e = true) : Small (lnN b d n e) (lnD n) ∧ lenN b d n e = ofN (lnN b d n e) (lnD n) ∧ lenD b d n e = ofD (lnN b d n e) (lnD n) := by
  have := ln_bounds h
  refine ⟨⟨by omega, by omega, by omega, by omega⟩, ?_, ?_⟩
  · unfold lenN; rw [h]; rfl
  · unfold lenD; rw [h]; rfl
end Go.Proofs.YtnfnonlbokddfaaDoor.Val
namespace Go.Proofs.YtnfnonlbokddfaaDoor
open Go.RowKit

set_option maxRecDepth 100000 in
set_option maxHeartbeats 4000000 in
theorem vrefRight_1 (b d n e : Int) (w : World) (h : b < 0) :
    Calls Tryd.prog 80 #[vl b d n e] w fun ed w' => ed = .returned (.bool false) ∧ Below w.heap.size w w' := by
  go_enter Tryd.func80, Tryd.ntmps80
  go_wp2
  go_ret
  exact ⟨rfl, (by repeat (first | exact Below.refl _ _ | refine below_drewN ?_ _ | refine Below.drew ?_ | refine Below.setCell ?_ (by simp <;> omega) _ | refine Below.alloc ?_ (by simp <;> omega) _))⟩

set_option maxRecDepth 100000 in
set_option maxHeartbeats 4000000 in
theorem vrefRight_2 (b d n e : Int) (w : World) (b0 : ¬ b < 0) (h : 6 < b) :
    Calls Tryd.prog 80 #[vl b d n e] w fun ed w' => ed = .returned (.bool false) ∧ Below w.heap.size w w' := by
  go_enter Tryd.func80, Tryd.ntmps80
  go_wp2
  go_ret
  exact ⟨rfl, (by repeat (first | exact Below.refl _ _ | refine below_drewN ?_ _ | refine Below.drew ?_ | refine Below.setCell ?_ (by simp <;> omega) _ | refine Below.alloc ?_ (by simp <;> omega) _))⟩

set_option maxRecDepth 100000 in
set_option maxHeartbeats 4000000 in
theorem vrefRight_3 (b d n e : Int) (w : World) (b0 : ¬ b < 0) (b6 : ¬ 6 < b) (h : d < 0) :
    Calls Tryd.prog 80 #[vl b d n e] w fun ed w' => ed = .returned (.bool false) ∧ Below w.heap.size w w' := by
  go_enter Tryd.func80, Tryd.ntmps80
  go_wp2
  go_ret
  exact ⟨rfl, (by repeat (first | exact Below.refl _ _ | refine below_drewN ?_ _ | refine Below.drew ?_ | refine Below.setCell ?_ (by simp <;> omega) _ | refine Below.alloc ?_ (by simp <;> omega) _))⟩

set_option maxRecDepth 100000 in
set_option maxHeartbeats 4000000 in
theorem vrefRight_4 (b d n e : Int) (w : World) (b0 : ¬ b < 0) (b6 : ¬ 6 < b) (d0 : ¬ d < 0) (h : 2 < d) :
    Calls Tryd.prog 80 #[vl b d n e] w fun ed w' => ed = .returned (.bool false) ∧ Below w.heap.size w w' := by
  go_enter Tryd.func80, Tryd.ntmps80
  go_wp2
  go_ret
  exact ⟨rfl, (by repeat (first | exact Below.refl _ _ | refine below_drewN ?_ _ | refine Below.drew ?_ | refine Below.setCell ?_ (by simp <;> omega) _ | refine Below.alloc ?_ (by simp <;> omega) _))⟩

set_option maxRecDepth 100000 in
set_option maxHeartbeats 4000000 in
theorem vrefRight_5 (b d n e : Int) (w : World) (b0 : ¬ b < 0) (b6 : ¬ 6 < b) (d0 : ¬ d < 0) (d2 : ¬ 2 < d) (hn : (n == 0) = true) (he : (e == 0) = true) :
    Calls Tryd.prog 80 #[vl b d n e] w fun ed w' => ed = .returned (.bool true) ∧ Below w.heap.size w w' := by
  go_enter Tryd.func80, Tryd.ntmps80
  go_wp2
  go_ret
  exact ⟨rfl, (by repeat (first | exact Below.refl _ _ | refine below_drewN ?_ _ | refine Below.drew ?_ | refine Below.setCell ?_ (by simp <;> omega) _ | refine Below.alloc ?_ (by simp <;> omega) _))⟩

set_option maxRecDepth 100000 in
set_option maxHeartbeats 4000000 in
theorem vrefRight_6 (b d n e : Int) (w : World) (b0 : ¬ b < 0) (b6 : ¬ 6 < b) (d0 : ¬ d < 0) (d2 : ¬ 2 < d) (hn : (n == 0) = true) (he : (e == 0) = false) (h : ¬ 2 ≤ n) :
    Calls Tryd.prog 80 #[vl b d n e] w fun ed w' => ed = .returned (.bool false) ∧ Below w.heap.size w w' := by
  go_enter Tryd.func80, Tryd.ntmps80
  go_wp2
  go_ret
  exact ⟨rfl, (by repeat (first | exact Below.refl _ _ | refine below_drewN ?_ _ | refine Below.drew ?_ | refine Below.setCell ?_ (by simp <;> omega) _ | refine Below.alloc ?_ (by simp <;> omega) _))⟩

set_option maxRecDepth 100000 in
set_option maxHeartbeats 4000000 in
theorem vrefRight_7 (b d n e : Int) (w : World) (b0 : ¬ b < 0) (b6 : ¬ 6 < b) (d0 : ¬ d < 0) (d2 : ¬ 2 < d) (hn : (n == 0) = false) (h : ¬ 2 ≤ n) :
    Calls Tryd.prog 80 #[vl b d n e] w fun ed w' => ed = .returned (.bool false) ∧ Below w.heap.size w w' := by
  go_enter Tryd.func80, Tryd.ntmps80
  go_wp2
  go_ret
  exact ⟨rfl, (by repeat (first | exact Below.refl _ _ | refine below_drewN ?_ _ | refine Below.drew ?_ | refine Below.setCell ?_ (by simp <;> omega) _ | refine Below.alloc ?_ (by simp <;> omega) _))⟩

set_option maxRecDepth 100000 in
set_option maxHeartbeats 4000000 in
theorem vrefRight_8 (b d n e : Int) (w : World) (b0 : ¬ b < 0) (b6 : ¬ 6 < b) (d0 : ¬ d < 0) (d2 : ¬ 2 < d) (hn : (n == 0) = false) (n2 : 2 ≤ n) (h : ¬ n ≤ 15) :
    Calls Tryd.prog 80 #[vl b d n e] w fun ed w' => ed = .returned (.bool false) ∧ Below w.heap.size w w' := by
  go_enter Tryd.func80, Tryd.ntmps80
  go_wp2
  go_ret
  exact ⟨rfl, (by repeat (first | exact Below.refl _ _ | refine below_drewN ?_ _ | refine Below.drew ?_ | refine Below.setCell ?_ (by simp <;> omega) _ | refine Below.alloc ?_ (by simp <;> omega) _))⟩

set_option maxRecDepth 100000 in
set_option maxHeartbeats 4000000 in
theorem vrefRight_9 (b d n e : Int) (w : World) (b0 : ¬ b < 0) (b6 : ¬ 6 < b) (d0 : ¬ d < 0) (d2 : ¬ 2 < d) (hn : (n == 0) = false) (n2 : 2 ≤ n) (n15 : n ≤ 15) (h : ¬ 1 ≤ e) :
    Calls Tryd.prog 80 #[vl b d n e] w fun ed w' => ed = .returned (.bool false) ∧ Below w.heap.size w w' := by
  go_enter Tryd.func80, Tryd.ntmps80
  go_wp2
  go_ret
  exact ⟨rfl, (by repeat (first | exact Below.refl _ _ | refine below_drewN ?_ _ | refine Below.drew ?_ | refine Below.setCell ?_ (by simp <;> omega) _ | refine Below.alloc ?_ (by simp <;> omega) _))⟩

set_option maxRecDepth 100000 in
set_option maxHeartbeats 4000000 in
theorem vrefRight_10 (b d n e : Int) (w : World) (b0 : ¬ b < 0) (b6 : ¬ 6 < b) (d0 : ¬ d < 0) (d2 : ¬ 2 < d) (hn : (n == 0) = false) (n2 : 2 ≤ n) (n15 : n ≤ 15) (e1 : 1 ≤ e) (h : ¬ e ≤ 15) :
    Calls Tryd.prog 80 #[vl b d n e] w fun ed w' => ed = .returned (.bool false) ∧ Below w.heap.size w w' := by
  go_enter Tryd.func80, Tryd.ntmps80
  go_wp2
  go_ret
  exact ⟨rfl, (by repeat (first | exact Below.refl _ _ | refine below_drewN ?_ _ | refine Below.drew ?_ | refine Below.setCell ?_ (by simp <;> omega) _ | refine Below.alloc ?_ (by simp <;> omega) _))⟩

set_option maxRecDepth 100000 in
set_option maxHeartbeats 4000000 in
theorem vrefRight_11 (b d n e : Int) (w : World) (b0 : ¬ b < 0) (b6 : ¬ 6 < b) (d0 : ¬ d < 0) (d2 : ¬ 2 < d) (hn : (n == 0) = false) (n2 : 2 ≤ n) (n15 : n ≤ 15) (e1 : 1 ≤ e) (e15 : e ≤ 15) (h : (n != e) = false) :
    Calls Tryd.prog 80 #[vl b d n e] w fun ed w' => ed = .returned (.bool false) ∧ Below w.heap.size w w' := by
  go_enter Tryd.func80, Tryd.ntmps80
  go_wp2
  go_ret
  exact ⟨rfl, (by repeat (first | exact Below.refl _ _ | refine below_drewN ?_ _ | refine Below.drew ?_ | refine Below.setCell ?_ (by simp <;> omega) _ | refine Below.alloc ?_ (by simp <;> omega) _))⟩

set_option maxRecDepth 100000 in
set_option maxHeartbeats 4000000 in
theorem vrefRight_12 (b d n e : Int) (w : World) (b0 : ¬ b < 0) (b6 : ¬ 6 < b) (d0 : ¬ d < 0) (d2 : ¬ 2 < d) (hn : (n == 0) = false) (n2 : 2 ≤ n) (n15 : n ≤ 15) (e1 : 1 ≤ e) (e15 : e ≤ 15) (h : (n != e) = true) :
    Calls Tryd.prog 80 #[vl b d n e] w fun ed w' => ed = .returned (.bool true) ∧ Below w.heap.size w w' := by
  go_enter Tryd.func80, Tryd.ntmps80
  go_wp2
  go_ret
  exact ⟨rfl, (by repeat (first | exact Below.refl _ _ | refine below_drewN ?_ _ | refine Below.drew ?_ | refine Below.setCell ?_ (by simp <;> omega) _ | refine Below.alloc ?_ (by simp <;> omega) _))⟩

theorem vrefRight_any (b d n e : Int) (w : World) :
    Calls Tryd.prog 80 #[vl b d n e] w fun ed w' => ed = .returned (.bool (Val.ok b d n e)) ∧ Below w.heap.size w w' := by
  by_cases h1 : b < 0
  · rw [Val.ok_false (by omega)]; exact vrefRight_1 b d n e w h1
  by_cases h2 : 6 < b
  · rw [Val.ok_false (by omega)]; exact vrefRight_2 b d n e w h1 h2
  by_cases h3 : d < 0
  · rw [Val.ok_false (by omega)]; exact vrefRight_3 b d n e w h1 h2 h3
  by_cases h4 : 2 < d
  · rw [Val.ok_false (by omega)]; exact vrefRight_4 b d n e w h1 h2 h3 h4
  by_cases hn : n = 0
  · by_cases he : e = 0
    · rw [(Val.ok_iff b d n e).2 (by omega)]; exact vrefRight_5 b d n e w h1 h2 h3 h4 (by simpa using hn) (by simpa using he)
    · rw [Val.ok_false (by omega)]; exact vrefRight_6 b d n e w h1 h2 h3 h4 (by simpa using hn) (by simpa using he) (by omega)
  have hn' : (n == 0) = false := by simpa using hn
  by_cases h5 : 2 ≤ n
  · by_cases h6 : n ≤ 15
    · by_cases h7 : 1 ≤ e
      · by_cases h8 : e ≤ 15
        · by_cases h9 : n = e
          · rw [Val.ok_false (by omega)]; exact vrefRight_11 b d n e w h1 h2 h3 h4 hn' h5 h6 h7 h8 (by simpa using h9)
          · rw [(Val.ok_iff b d n e).2 (by omega)]; exact vrefRight_12 b d n e w h1 h2 h3 h4 hn' h5 h6 h7 h8 (by simpa using h9)
        · rw [Val.ok_false (by omega)]; exact vrefRight_10 b d n e w h1 h2 h3 h4 hn' h5 h6 h7 h8
      · rw [Val.ok_false (by omega)]; exact vrefRight_9 b d n e w h1 h2 h3 h4 hn' h5 h6 h7
    · rw [Val.ok_false (by omega)]; exact vrefRight_8 b d n e w h1 h2 h3 h4 hn' h5 h6
  · rw [Val.ok_false (by omega)]; exact vrefRight_7 b d n e w h1 h2 h3 h4 hn' h5
end Go.Proofs.YtnfnonlbokddfaaDoor
