/-
  The contracts of package pitch's Right and Number.
-/
import Derived.Test.YtahcbgngdpjhkaaDoorKeyA
namespace Go.Proofs.YtahcbgngdpjhkaaDoor
open Go.RowKit

set_option maxRecDepth 100000 in
set_option maxHeartbeats 4000000 in
theorem right_1 (s a o : Int) (w : World)  (h : ¬ (0 ≤ s ∧ s ≤ 6)) :
    Calls Tryd.prog 43 #[pt s a o] w fun e w' => e = .returned (.bool false) ∧ Below w.heap.size w w' := by
  have hB0 : Below w.heap.size w w := Below.refl _ _
  go_enter Tryd.func43, Tryd.ntmps43
  go_wp2_with fail
  refine (within_no h _).mono ?_
  rintro e wx ⟨rfl, rfl⟩
  go_wp2
  go_ret
  exact ⟨rfl, (hB0.alloc hB0.size (.cells #[.int .i64 s, .int .i64 a, .int .i64 o] 42))⟩

set_option maxRecDepth 100000 in
set_option maxHeartbeats 4000000 in
theorem right_2 (s a o : Int) (w : World)  (h0 : 0 ≤ s) (h6 : s ≤ 6) (h : ¬ (-2 ≤ a ∧ a ≤ 2)) :
    Calls Tryd.prog 43 #[pt s a o] w fun e w' => e = .returned (.bool false) ∧ Below w.heap.size w w' := by
  have hB0 : Below w.heap.size w w := Below.refl _ _
  go_enter Tryd.func43, Tryd.ntmps43
  go_wp2_with fail
  refine (within_yes h0 h6 _).mono ?_
  rintro e wx ⟨rfl, rfl⟩
  go_wp2_with fail
  refine (within_no h _).mono ?_
  rintro e wx ⟨rfl, rfl⟩
  go_wp2
  go_ret
  exact ⟨rfl, (hB0.alloc hB0.size (.cells #[.int .i64 s, .int .i64 a, .int .i64 o] 42))⟩

set_option maxRecDepth 100000 in
set_option maxHeartbeats 4000000 in
theorem right_3 (s a o : Int) (w : World)  (h0 : 0 ≤ s) (h6 : s ≤ 6)(a0 : -2 ≤ a) (a2 : a ≤ 2) (h : ¬ (-1 ≤ o ∧ o ≤ 9)) :
    Calls Tryd.prog 43 #[pt s a o] w fun e w' => e = .returned (.bool false) ∧ Below w.heap.size w w' := by
  have hB0 : Below w.heap.size w w := Below.refl _ _
  go_enter Tryd.func43, Tryd.ntmps43
  go_wp2_with fail
  refine (within_yes h0 h6 _).mono ?_
  rintro e wx ⟨rfl, rfl⟩
  go_wp2_with fail
  refine (within_yes a0 a2 _).mono ?_
  rintro e wx ⟨rfl, rfl⟩
  go_wp2_with fail
  refine (within_no h _).mono ?_
  rintro e wx ⟨rfl, rfl⟩
  go_wp2
  go_ret
  exact ⟨rfl, (hB0.alloc hB0.size (.cells #[.int .i64 s, .int .i64 a, .int .i64 o] 42))⟩

set_option maxRecDepth 100000 in
set_option maxHeartbeats 4000000 in
theorem right_4 (s a o : Int) (w : World) (hR : Ready w) (h0 : 0 ≤ s) (h6 : s ≤ 6)(a0 : -2 ≤ a) (a2 : a ≤ 2)(o0 : -1 ≤ o) (o9 : o ≤ 9) (h : ¬ (0 ≤ Pit.num s a o ∧ Pit.num s a o ≤ 127)) :
    Calls Tryd.prog 43 #[pt s a o] w fun e w' => e = .returned (.bool false) ∧ Below w.heap.size w w' := by
  have hB0 : Below w.heap.size w w := Below.refl _ _
  go_enter Tryd.func43, Tryd.ntmps43
  go_wp2_with fail
  refine (within_yes h0 h6 _).mono ?_
  rintro e wx ⟨rfl, rfl⟩
  go_wp2_with fail
  refine (within_yes a0 a2 _).mono ?_
  rintro e wx ⟨rfl, rfl⟩
  go_wp2_with fail
  refine (within_yes o0 o9 _).mono ?_
  rintro e wx ⟨rfl, rfl⟩
  go_wp2_with fail
  have hR' := hR.below (hB0.alloc hB0.size (.cells #[.int .i64 s, .int .i64 a, .int .i64 o] 42))
  refine (number_any _ _ _ _ hR' h0 h6 a0 a2 o0 o9).mono ?_
  rintro e w1 ⟨rfl, hb1⟩
  clear hR'
  have hs1 : Below w.heap.size w w1 := Below.trans (by repeat (first | exact Below.refl _ _ | refine Below.alloc ?_ (by simp <;> omega) _)) (hb1.mono (by simp <;> omega))
  have c_p_0 : w1.cell? ⟨w.heap.size, 0, none⟩ = some (.int .i64 s) := (hb1.cell (by simp <;> omega)).trans (by go_simp)
  have c_p_1 : w1.cell? ⟨w.heap.size, 1, none⟩ = some (.int .i64 a) := (hb1.cell (by simp <;> omega)).trans (by go_simp)
  have c_p_2 : w1.cell? ⟨w.heap.size, 2, none⟩ = some (.int .i64 o) := (hb1.cell (by simp <;> omega)).trans (by go_simp)
  have z_p := World.block_lt_of_cell? _ _ c_p_0
  have hB1 := below_two hB0 hs1
  clear hB0 hs1 hb1
  go_wp2_with fail
  refine (within_no h _).mono ?_
  rintro e wx ⟨rfl, rfl⟩
  go_wp2
  go_ret
  exact ⟨rfl, hB1⟩

set_option maxRecDepth 100000 in
set_option maxHeartbeats 4000000 in
theorem right_5 (s a o : Int) (w : World) (hR : Ready w) (h0 : 0 ≤ s) (h6 : s ≤ 6)(a0 : -2 ≤ a) (a2 : a ≤ 2)(o0 : -1 ≤ o) (o9 : o ≤ 9) (n0 : 0 ≤ Pit.num s a o) (nM : Pit.num s a o ≤ 127) :
    Calls Tryd.prog 43 #[pt s a o] w fun e w' => e = .returned (.bool true) ∧ Below w.heap.size w w' := by
  have hB0 : Below w.heap.size w w := Below.refl _ _
  go_enter Tryd.func43, Tryd.ntmps43
  go_wp2_with fail
  refine (within_yes h0 h6 _).mono ?_
  rintro e wx ⟨rfl, rfl⟩
  go_wp2_with fail
  refine (within_yes a0 a2 _).mono ?_
  rintro e wx ⟨rfl, rfl⟩
  go_wp2_with fail
  refine (within_yes o0 o9 _).mono ?_
  rintro e wx ⟨rfl, rfl⟩
  go_wp2_with fail
  have hR' := hR.below (hB0.alloc hB0.size (.cells #[.int .i64 s, .int .i64 a, .int .i64 o] 42))
  refine (number_any _ _ _ _ hR' h0 h6 a0 a2 o0 o9).mono ?_
  rintro e w1 ⟨rfl, hb1⟩
  clear hR'
  have hs1 : Below w.heap.size w w1 := Below.trans (by repeat (first | exact Below.refl _ _ | refine Below.alloc ?_ (by simp <;> omega) _)) (hb1.mono (by simp <;> omega))
  have c_p_0 : w1.cell? ⟨w.heap.size, 0, none⟩ = some (.int .i64 s) := (hb1.cell (by simp <;> omega)).trans (by go_simp)
  have c_p_1 : w1.cell? ⟨w.heap.size, 1, none⟩ = some (.int .i64 a) := (hb1.cell (by simp <;> omega)).trans (by go_simp)
  have c_p_2 : w1.cell? ⟨w.heap.size, 2, none⟩ = some (.int .i64 o) := (hb1.cell (by simp <;> omega)).trans (by go_simp)
  have z_p := World.block_lt_of_cell? _ _ c_p_0
  have hB1 := below_two hB0 hs1
  clear hB0 hs1 hb1
  go_wp2_with fail
  refine (within_yes n0 nM _).mono ?_
  rintro e wx ⟨rfl, rfl⟩
  go_wp2
  go_ret
  exact ⟨rfl, hB1⟩

theorem right_any (s a o : Int) (w : World) (hR : Ready w) :
    Calls Tryd.prog 43 #[pt s a o] w fun e w' => e = .returned (.bool (Pit.right s a o)) ∧ Below w.heap.size w w' := by
  by_cases h1 : 0 ≤ s ∧ s ≤ 6
  · by_cases h2 : -2 ≤ a ∧ a ≤ 2
    · by_cases h3 : -1 ≤ o ∧ o ≤ 9
      · by_cases h4 : 0 ≤ Pit.num s a o ∧ Pit.num s a o ≤ 127
        · rw [Pit.right_true ⟨h1.1, h1.2, h2.1, h2.2, h3.1, h3.2, h4.1, h4.2⟩]
          exact right_5 s a o w hR h1.1 h1.2 h2.1 h2.2 h3.1 h3.2 h4.1 h4.2
        · rw [Pit.right_false fun h => h4 ⟨h.n0, h.nM⟩]
          exact right_4 s a o w hR h1.1 h1.2 h2.1 h2.2 h3.1 h3.2 h4
      · rw [Pit.right_false fun h => h3 ⟨h.o0, h.o9⟩]
        exact right_3 s a o w h1.1 h1.2 h2.1 h2.2 h3
    · rw [Pit.right_false fun h => h2 ⟨h.a0, h.a2⟩]
      exact right_2 s a o w h1.1 h1.2 h2
  · rw [Pit.right_false fun h => h1 ⟨h.s0, h.s6⟩]
    exact right_1 s a o w h1
theorem right_yes {s a o : Int} (h : Pit.IsRight s a o) (w : World) (hR : Ready w) :
    Calls Tryd.prog 43 #[pt s a o] w fun e w' => e = .returned (.bool true) ∧ Below w.heap.size w w' := by
  have := right_any s a o w hR
  rw [Pit.right_true h] at this
  exact this
theorem right_no {s a o : Int} (h : Pit.right s a o = false) (w : World) (hR : Ready w) :
    Calls Tryd.prog 43 #[pt s a o] w fun e w' => e = .returned (.bool false) ∧ Below w.heap.size w w' := by
  have := right_any s a o w hR
  rw [h] at this
  exact this
theorem number_right {s a o : Int} (h : Pit.IsRight s a o) (w : World) (hR : Ready w) :
    Calls Tryd.prog 46 #[pt s a o] w fun e w' => e = .returned (.int .i64 (Pit.num s a o)) ∧ Below w.heap.size w w' :=
  number_any s a o w hR h.s0 h.s6 h.a0 h.a2 h.o0 h.o9
/-- What Number and Line answer beside the number. -/
def errP (r : Bool) : Int := if r then 0 else 20
def onlyR (r : Bool) (n : Int) : Int := if r then n else 0

set_option maxRecDepth 100000 in
set_option maxHeartbeats 4000000 in
theorem numberE_no (s a o : Int) (w : World) (hR : Ready w) (h : Pit.right s a o = false) :
    Calls Tryd.prog 33 #[pt s a o] w fun e w' => e = .returned (.tuple #[.int .i64 0, .int .i64 20]) ∧ Below w.heap.size w w' := by
  have hB0 : Below w.heap.size w w := Below.refl _ _
  go_enter Tryd.func33, Tryd.ntmps33
  go_wp2_with fail
  have hR' := hR.below (hB0.alloc hB0.size (.cells #[.int .i64 s, .int .i64 a, .int .i64 o] 42))
  refine (right_no h _ hR').mono ?_
  rintro e w1 ⟨rfl, hb1⟩
  clear hR'
  have hs1 : Below w.heap.size w w1 := Below.trans (by repeat (first | exact Below.refl _ _ | refine Below.alloc ?_ (by simp <;> omega) _)) (hb1.mono (by simp <;> omega))
  have c_p_0 : w1.cell? ⟨w.heap.size, 0, none⟩ = some (.int .i64 s) := (hb1.cell (by simp <;> omega)).trans (by go_simp)
  have c_p_1 : w1.cell? ⟨w.heap.size, 1, none⟩ = some (.int .i64 a) := (hb1.cell (by simp <;> omega)).trans (by go_simp)
  have c_p_2 : w1.cell? ⟨w.heap.size, 2, none⟩ = some (.int .i64 o) := (hb1.cell (by simp <;> omega)).trans (by go_simp)
  have z_p := World.block_lt_of_cell? _ _ c_p_0
  have hB1 := below_two hB0 hs1
  clear hB0 hs1 hb1
  go_wp2
  go_ret2
  exact ⟨rfl, hB1⟩

set_option maxRecDepth 100000 in
set_option maxHeartbeats 4000000 in
theorem numberE_yes (s a o : Int) (w : World) (hR : Ready w) (h : Pit.IsRight s a o) :
    Calls Tryd.prog 33 #[pt s a o] w fun e w' => e = .returned (.tuple #[.int .i64 (Pit.num s a o), .int .i64 0]) ∧ Below w.heap.size w w' := by
  have hB0 : Below w.heap.size w w := Below.refl _ _
  go_enter Tryd.func33, Tryd.ntmps33
  go_wp2_with fail
  have hR' := hR.below (hB0.alloc hB0.size (.cells #[.int .i64 s, .int .i64 a, .int .i64 o] 42))
  refine (right_yes h _ hR').mono ?_
  rintro e w1 ⟨rfl, hb1⟩
  clear hR'
  have hs1 : Below w.heap.size w w1 := Below.trans (by repeat (first | exact Below.refl _ _ | refine Below.alloc ?_ (by simp <;> omega) _)) (hb1.mono (by simp <;> omega))
  have c_p_0 : w1.cell? ⟨w.heap.size, 0, none⟩ = some (.int .i64 s) := (hb1.cell (by simp <;> omega)).trans (by go_simp)
  have c_p_1 : w1.cell? ⟨w.heap.size, 1, none⟩ = some (.int .i64 a) := (hb1.cell (by simp <;> omega)).trans (by go_simp)
  have c_p_2 : w1.cell? ⟨w.heap.size, 2, none⟩ = some (.int .i64 o) := (hb1.cell (by simp <;> omega)).trans (by go_simp)
  have z_p := World.block_lt_of_cell? _ _ c_p_0
  have hB1 := below_two hB0 hs1
  clear hB0 hs1 hb1
  go_wp2_with fail
  have hR' := hR.below hB1
  refine (number_right h _ hR').mono ?_
  rintro e w2 ⟨rfl, hb2⟩
  clear hR'
  have hs2 := hb2
  replace c_p_0 := cell_later hs2 c_p_0
  replace c_p_1 := cell_later hs2 c_p_1
  replace c_p_2 := cell_later hs2 c_p_2
  clear z_p
  have z_p := World.block_lt_of_cell? _ _ c_p_0
  have hB2 := below_two hB1 hs2
  clear hB1 hs2
  go_wp2
  go_ret2
  exact ⟨rfl, hB2⟩

theorem numberE (s a o : Int) (w : World) (hR : Ready w) :
    Calls Tryd.prog 33 #[pt s a o] w fun e w' => e = .returned (.tuple #[.int .i64 (onlyR (Pit.right s a o) (Pit.num s a o)), .int .i64 (errP (Pit.right s a o))]) ∧ Below w.heap.size w w' := by
  cases h : Pit.right s a o
  · exact numberE_no s a o w hR h
  · exact numberE_yes s a o w hR ((Pit.right_iff _ _ _).1 h)
end Go.Proofs.YtahcbgngdpjhkaaDoor
