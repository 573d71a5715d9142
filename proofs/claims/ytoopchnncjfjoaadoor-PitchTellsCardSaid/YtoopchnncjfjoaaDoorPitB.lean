/-
  The contracts of pitch.Right, Number, Line, Between.
-/
import Derived.Test.YtoopchnncjfjoaaDoorPitA
namespace Go.Proofs.YtoopchnncjfjoaaDoor
open Go.RowKit

set_option maxRecDepth 100000 in
set_option maxHeartbeats 4000000 in
theorem right_1 (s a o : Int) (w : World)  (h : ¬ (0 ≤ s ∧ s ≤ 6)) :
    Calls Tryd.prog 20 #[pt s a o] w fun e w' => e = .returned (.bool false) ∧ Below w.heap.size w w' := by
  have hB0 : Below w.heap.size w w := Below.refl _ _
  go_enter Tryd.func20, Tryd.ntmps20
  go_wp2_with fail
  refine (within_no h _).mono ?_
  rintro e wx ⟨rfl, rfl⟩
  go_wp2
  go_ret
  exact ⟨rfl, (hB0.alloc hB0.size (.cells #[.int .i64 s, .int .i64 a, .int .i64 o] 23))⟩

set_option maxRecDepth 100000 in
set_option maxHeartbeats 4000000 in
theorem right_2 (s a o : Int) (w : World)  (h0 : 0 ≤ s) (h6 : s ≤ 6) (h : ¬ (-2 ≤ a ∧ a ≤ 2)) :
    Calls Tryd.prog 20 #[pt s a o] w fun e w' => e = .returned (.bool false) ∧ Below w.heap.size w w' := by
  have hB0 : Below w.heap.size w w := Below.refl _ _
  go_enter Tryd.func20, Tryd.ntmps20
  go_wp2_with fail
  refine (within_yes h0 h6 _).mono ?_
  rintro e wx ⟨rfl, rfl⟩
  go_wp2_with fail
  refine (within_no h _).mono ?_
  rintro e wx ⟨rfl, rfl⟩
  go_wp2
  go_ret
  exact ⟨rfl, (hB0.alloc hB0.size (.cells #[.int .i64 s, .int .i64 a, .int .i64 o] 23))⟩

set_option maxRecDepth 100000 in
set_option maxHeartbeats 4000000 in
theorem right_3 (s a o : Int) (w : World)  (h0 : 0 ≤ s) (h6 : s ≤ 6)(a0 : -2 ≤ a) (a2 : a ≤ 2) (h : ¬ (-1 ≤ o ∧ o ≤ 9)) :
    Calls Tryd.prog 20 #[pt s a o] w fun e w' => e = .returned (.bool false) ∧ Below w.heap.size w w' := by
  have hB0 : Below w.heap.size w w := Below.refl _ _
  go_enter Tryd.func20, Tryd.ntmps20
  go_wp2_with fail
  refine (within_yes h0 h6 _).mono ?_
  rintro e wx ⟨rfl, rfl⟩
  go_wp2_with fail
  refine (within_yes a0 a2 _).mono ?_
  rintro e wx ⟨rfl, rfl⟩
  go_wp2_with fail
  refine (within_no h _).mono ?_
  rintro e wx ⟨rfl, rfl⟩
  go_wp2
  go_ret
  exact ⟨rfl, (hB0.alloc hB0.size (.cells #[.int .i64 s, .int .i64 a, .int .i64 o] 23))⟩

set_option maxRecDepth 100000 in
set_option maxHeartbeats 4000000 in
theorem right_4 (s a o : Int) (w : World) (hR : Ready w) (h0 : 0 ≤ s) (h6 : s ≤ 6)(a0 : -2 ≤ a) (a2 : a ≤ 2)(o0 : -1 ≤ o) (o9 : o ≤ 9) (h : ¬ (0 ≤ Pit.num s a o ∧ Pit.num s a o ≤ 127)) :
    Calls Tryd.prog 20 #[pt s a o] w fun e w' => e = .returned (.bool false) ∧ Below w.heap.size w w' := by
  have hB0 : Below w.heap.size w w := Below.refl _ _
  go_enter Tryd.func20, Tryd.ntmps20
  go_wp2_with fail
  refine (within_yes h0 h6 _).mono ?_
  rintro e wx ⟨rfl, rfl⟩
  go_wp2_with fail
  refine (within_yes a0 a2 _).mono ?_
  rintro e wx ⟨rfl, rfl⟩
  go_wp2_with fail
  refine (within_yes o0 o9 _).mono ?_
  rintro e wx ⟨rfl, rfl⟩
  go_wp2_with fail
  have hR' := hR.below (hB0.alloc hB0.size (.cells #[.int .i64 s, .int .i64 a, .int .i64 o] 23))
  refine (number_any _ _ _ _ hR' h0 h6 a0 a2 o0 o9).mono ?_
  rintro e w1 ⟨rfl, hb1⟩
  clear hR'
  have hs1 : Below w.heap.size w w1 := Below.trans (by repeat (first | exact Below.refl _ _ | refine Below.alloc ?_ (by simp <;> omega) _)) (hb1.mono (by simp <;> omega))
  have c_p_0 : w1.cell? ⟨w.heap.size, 0, none⟩ = some (.int .i64 s) := (hb1.cell (by simp <;> omega)).trans (by go_simp)
  have c_p_1 : w1.cell? ⟨w.heap.size, 1, none⟩ = some (.int .i64 a) := (hb1.cell (by simp <;> omega)).trans (by go_simp)
  have c_p_2 : w1.cell? ⟨w.heap.size, 2, none⟩ = some (.int .i64 o) := (hb1.cell (by simp <;> omega)).trans (by go_simp)
  have z_p := World.block_lt_of_cell? _ _ c_p_0
  have hB1 := below_two hB0 hs1
  clear hB0 hs1 hb1
  go_wp2_with fail
  refine (within_no h _).mono ?_
  rintro e wx ⟨rfl, rfl⟩
  go_wp2
  go_ret
  exact ⟨rfl, hB1⟩

set_option maxRecDepth 100000 in
set_option maxHeartbeats 4000000 in
theorem right_5 (s a o : Int) (w : World) (hR : Ready w) (h0 : 0 ≤ s) (h6 : s ≤ 6)(a0 : -2 ≤ a) (a2 : a ≤ 2)(o0 : -1 ≤ o) (o9 : o ≤ 9) (n0 : 0 ≤ Pit.num s a o) (nM : Pit.num s a o ≤ 127) :
    Calls Tryd.prog 20 #[pt s a o] w fun e w' => e = .returned (.bool true) ∧ Below w.heap.size w w' := by
  have hB0 : Below w.heap.size w w := Below.refl _ _
  go_enter Tryd.func20, Tryd.ntmps20
  go_wp2_with fail
  refine (within_yes h0 h6 _).mono ?_
  rintro e wx ⟨rfl, rfl⟩
  go_wp2_with fail
  refine (within_yes a0 a2 _).mono ?_
  rintro e wx ⟨rfl, rfl⟩
  go_wp2_with fail
  refine (within_yes o0 o9 _).mono ?_
  rintro e wx ⟨rfl, rfl⟩
  go_wp2_with fail
  have hR' := hR.below (hB0.alloc hB0.size (.cells #[.int .i64 s, .int .i64 a, .int .i64 o] 23))
  refine (number_any _ _ _ _ hR' h0 h6 a0 a2 o0 o9).mono ?_
  rintro e w1 ⟨rfl, hb1⟩
  clear hR'
  have hs1 : Below w.heap.size w w1 := Below.trans (by repeat (first | exact Below.refl _ _ | refine Below.alloc ?_ (by simp <;> omega) _)) (hb1.mono (by simp <;> omega))
  have c_p_0 : w1.cell? ⟨w.heap.size, 0, none⟩ = some (.int .i64 s) := (hb1.cell (by simp <;> omega)).trans (by go_simp)
  have c_p_1 : w1.cell? ⟨w.heap.size, 1, none⟩ = some (.int .i64 a) := (hb1.cell (by simp <;> omega)).trans (by go_simp)
  have c_p_2 : w1.cell? ⟨w.heap.size, 2, none⟩ = some (.int .i64 o) := (hb1.cell (by simp <;> omega)).trans (by go_simp)
  have z_p := World.block_lt_of_cell? _ _ c_p_0
  have hB1 := below_two hB0 hs1
  clear hB0 hs1 hb1
  go_wp2_with fail
  refine (within_yes n0 nM _).mono ?_
  rintro e wx ⟨rfl, rfl⟩
  go_wp2
  go_ret
  exact ⟨rfl, hB1⟩

theorem right_any (s a o : Int) (w : World) (hR : Ready w) :
    Calls Tryd.prog 20 #[pt s a o] w fun e w' => e = .returned (.bool (Pit.right s a o)) ∧ Below w.heap.size w w' := by
  by_cases h1 : 0 ≤ s ∧ s ≤ 6
  · by_cases h2 : -2 ≤ a ∧ a ≤ 2
    · by_cases h3 : -1 ≤ o ∧ o ≤ 9
      · by_cases h4 : 0 ≤ Pit.num s a o ∧ Pit.num s a o ≤ 127
        · rw [Pit.right_true ⟨h1.1, h1.2, h2.1, h2.2, h3.1, h3.2, h4.1, h4.2⟩]
          exact right_5 s a o w hR h1.1 h1.2 h2.1 h2.2 h3.1 h3.2 h4.1 h4.2
        · rw [Pit.right_false fun h => h4 ⟨h.n0, h.nM⟩]
          exact right_4 s a o w hR h1.1 h1.2 h2.1 h2.2 h3.1 h3.2 h4
      · rw [Pit.right_false fun h => h3 ⟨h.o0, h.o9⟩]
        exact right_3 s a o w h1.1 h1.2 h2.1 h2.2 h3
    · rw [Pit.right_false fun h => h2 ⟨h.a0, h.a2⟩]
      exact right_2 s a o w h1.1 h1.2 h2
  · rw [Pit.right_false fun h => h1 ⟨h.s0, h.s6⟩]
    exact right_1 s a o w h1
theorem right_yes {s a o : Int} (h : Pit.IsRight s a o) (w : World) (hR : Ready w) :
    Calls Tryd.prog 20 #[pt s a o] w fun e w' => e = .returned (.bool true) ∧ Below w.heap.size w w' := by
  have := right_any s a o w hR
  rw [Pit.right_true h] at this
  exact this
theorem right_no {s a o : Int} (h : Pit.right s a o = false) (w : World) (hR : Ready w) :
    Calls Tryd.prog 20 #[pt s a o] w fun e w' => e = .returned (.bool false) ∧ Below w.heap.size w w' := by
  have := right_any s a o w hR
  rw [h] at this
  exact this
theorem number_right {s a o : Int} (h : Pit.IsRight s a o) (w : World) (hR : Ready w) :
    Calls Tryd.prog 31 #[pt s a o] w fun e w' => e = .returned (.int .i64 (Pit.num s a o)) ∧ Below w.heap.size w w' :=
  number_any s a o w hR h.s0 h.s6 h.a0 h.a2 h.o0 h.o9
/-- What Number and Line answer beside the number. -/
def errP (r : Bool) : Int := if r then 0 else 20
def onlyR (r : Bool) (n : Int) : Int := if r then n else 0

set_option maxRecDepth 100000 in
set_option maxHeartbeats 4000000 in
theorem numberE_no (s a o : Int) (w : World) (hR : Ready w) (h : Pit.right s a o = false) :
    Calls Tryd.prog 14 #[pt s a o] w fun e w' => e = .returned (.tuple #[.int .i64 0, .int .i64 20]) ∧ Below w.heap.size w w' := by
  have hB0 : Below w.heap.size w w := Below.refl _ _
  go_enter Tryd.func14, Tryd.ntmps14
  go_wp2_with fail
  have hR' := hR.below (hB0.alloc hB0.size (.cells #[.int .i64 s, .int .i64 a, .int .i64 o] 23))
  refine (right_no h _ hR').mono ?_
  rintro e w1 ⟨rfl, hb1⟩
  clear hR'
  have hs1 : Below w.heap.size w w1 := Below.trans (by repeat (first | exact Below.refl _ _ | refine Below.alloc ?_ (by simp <;> omega) _)) (hb1.mono (by simp <;> omega))
  have c_p_0 : w1.cell? ⟨w.heap.size, 0, none⟩ = some (.int .i64 s) := (hb1.cell (by simp <;> omega)).trans (by go_simp)
  have c_p_1 : w1.cell? ⟨w.heap.size, 1, none⟩ = some (.int .i64 a) := (hb1.cell (by simp <;> omega)).trans (by go_simp)
  have c_p_2 : w1.cell? ⟨w.heap.size, 2, none⟩ = some (.int .i64 o) := (hb1.cell (by simp <;> omega)).trans (by go_simp)
  have z_p := World.block_lt_of_cell? _ _ c_p_0
  have hB1 := below_two hB0 hs1
  clear hB0 hs1 hb1
  go_wp2
  go_ret2
  exact ⟨rfl, hB1⟩

set_option maxRecDepth 100000 in
set_option maxHeartbeats 4000000 in
theorem numberE_yes (s a o : Int) (w : World) (hR : Ready w) (h : Pit.IsRight s a o) :
    Calls Tryd.prog 14 #[pt s a o] w fun e w' => e = .returned (.tuple #[.int .i64 (Pit.num s a o), .int .i64 0]) ∧ Below w.heap.size w w' := by
  have hB0 : Below w.heap.size w w := Below.refl _ _
  go_enter Tryd.func14, Tryd.ntmps14
  go_wp2_with fail
  have hR' := hR.below (hB0.alloc hB0.size (.cells #[.int .i64 s, .int .i64 a, .int .i64 o] 23))
  refine (right_yes h _ hR').mono ?_
  rintro e w1 ⟨rfl, hb1⟩
  clear hR'
  have hs1 : Below w.heap.size w w1 := Below.trans (by repeat (first | exact Below.refl _ _ | refine Below.alloc ?_ (by simp <;> omega) _)) (hb1.mono (by simp <;> omega))
  have c_p_0 : w1.cell? ⟨w.heap.size, 0, none⟩ = some (.int .i64 s) := (hb1.cell (by simp <;> omega)).trans (by go_simp)
  have c_p_1 : w1.cell? ⟨w.heap.size, 1, none⟩ = some (.int .i64 a) := (hb1.cell (by simp <;> omega)).trans (by go_simp)
  have c_p_2 : w1.cell? ⟨w.heap.size, 2, none⟩ = some (.int .i64 o) := (hb1.cell (by simp <;> omega)).trans (by go_simp)
  have z_p := World.block_lt_of_cell? _ _ c_p_0
  have hB1 := below_two hB0 hs1
  clear hB0 hs1 hb1
  go_wp2_with fail
  have hR' := hR.below hB1
  refine (number_right h _ hR').mono ?_
  rintro e w2 ⟨rfl, hb2⟩
  clear hR'
  have hs2 := hb2
  replace c_p_0 := cell_later hs2 c_p_0
  replace c_p_1 := cell_later hs2 c_p_1
  replace c_p_2 := cell_later hs2 c_p_2
  clear z_p
  have z_p := World.block_lt_of_cell? _ _ c_p_0
  have hB2 := below_two hB1 hs2
  clear hB1 hs2
  go_wp2
  go_ret2
  exact ⟨rfl, hB2⟩

theorem numberE (s a o : Int) (w : World) (hR : Ready w) :
    Calls Tryd.prog 14 #[pt s a o] w fun e w' => e = .returned (.tuple #[.int .i64 (onlyR (Pit.right s a o) (Pit.num s a o)), .int .i64 (errP (Pit.right s a o))]) ∧ Below w.heap.size w w' := by
  cases h : Pit.right s a o
  · exact numberE_no s a o w hR h
  · exact numberE_yes s a o w hR ((Pit.right_iff _ _ _).1 h)

set_option maxRecDepth 100000 in
set_option maxHeartbeats 4000000 in
theorem lineE_no (s a o : Int) (w : World) (hR : Ready w) (h : Pit.right s a o = false) :
    Calls Tryd.prog 16 #[pt s a o] w fun e w' => e = .returned (.tuple #[.int .i64 0, .int .i64 20]) ∧ Below w.heap.size w w' := by
  have hB0 : Below w.heap.size w w := Below.refl _ _
  go_enter Tryd.func16, Tryd.ntmps16
  go_wp2_with fail
  have hR' := hR.below (hB0.alloc hB0.size (.cells #[.int .i64 s, .int .i64 a, .int .i64 o] 23))
  refine (right_no h _ hR').mono ?_
  rintro e w1 ⟨rfl, hb1⟩
  clear hR'
  have hs1 : Below w.heap.size w w1 := Below.trans (by repeat (first | exact Below.refl _ _ | refine Below.alloc ?_ (by simp <;> omega) _)) (hb1.mono (by simp <;> omega))
  have c_p_0 : w1.cell? ⟨w.heap.size, 0, none⟩ = some (.int .i64 s) := (hb1.cell (by simp <;> omega)).trans (by go_simp)
  have c_p_1 : w1.cell? ⟨w.heap.size, 1, none⟩ = some (.int .i64 a) := (hb1.cell (by simp <;> omega)).trans (by go_simp)
  have c_p_2 : w1.cell? ⟨w.heap.size, 2, none⟩ = some (.int .i64 o) := (hb1.cell (by simp <;> omega)).trans (by go_simp)
  have z_p := World.block_lt_of_cell? _ _ c_p_0
  have hB1 := below_two hB0 hs1
  clear hB0 hs1 hb1
  go_wp2
  go_ret2
  exact ⟨rfl, hB1⟩

set_option maxRecDepth 100000 in
set_option maxHeartbeats 4000000 in
theorem lineE_yes (s a o : Int) (w : World) (hR : Ready w) (h : Pit.IsRight s a o) :
    Calls Tryd.prog 16 #[pt s a o] w fun e w' => e = .returned (.tuple #[.int .i64 (Pit.lin s o), .int .i64 0]) ∧ Below w.heap.size w w' := by
  have hB0 : Below w.heap.size w w := Below.refl _ _
  go_enter Tryd.func16, Tryd.ntmps16
  go_wp2_with fail
  have hR' := hR.below (hB0.alloc hB0.size (.cells #[.int .i64 s, .int .i64 a, .int .i64 o] 23))
  refine (right_yes h _ hR').mono ?_
  rintro e w1 ⟨rfl, hb1⟩
  clear hR'
  have hs1 : Below w.heap.size w w1 := Below.trans (by repeat (first | exact Below.refl _ _ | refine Below.alloc ?_ (by simp <;> omega) _)) (hb1.mono (by simp <;> omega))
  have c_p_0 : w1.cell? ⟨w.heap.size, 0, none⟩ = some (.int .i64 s) := (hb1.cell (by simp <;> omega)).trans (by go_simp)
  have c_p_1 : w1.cell? ⟨w.heap.size, 1, none⟩ = some (.int .i64 a) := (hb1.cell (by simp <;> omega)).trans (by go_simp)
  have c_p_2 : w1.cell? ⟨w.heap.size, 2, none⟩ = some (.int .i64 o) := (hb1.cell (by simp <;> omega)).trans (by go_simp)
  have z_p := World.block_lt_of_cell? _ _ c_p_0
  have hB1 := below_two hB0 hs1
  clear hB0 hs1 hb1
  go_wp2_with fail
  have hR' := hR.below hB1
  refine (line_any _ _ _ _ h).mono ?_
  rintro e w2 ⟨rfl, hb2⟩
  clear hR'
  have hs2 := hb2
  replace c_p_0 := cell_later hs2 c_p_0
  replace c_p_1 := cell_later hs2 c_p_1
  replace c_p_2 := cell_later hs2 c_p_2
  clear z_p
  have z_p := World.block_lt_of_cell? _ _ c_p_0
  have hB2 := below_two hB1 hs2
  clear hB1 hs2
  go_wp2
  go_ret2
  exact ⟨rfl, hB2⟩

theorem lineE (s a o : Int) (w : World) (hR : Ready w) :
    Calls Tryd.prog 16 #[pt s a o] w fun e w' => e = .returned (.tuple #[.int .i64 (onlyR (Pit.right s a o) (Pit.lin s o)), .int .i64 (errP (Pit.right s a o))]) ∧ Below w.heap.size w w' := by
  cases h : Pit.right s a o
  · exact lineE_no s a o w hR h
  · exact lineE_yes s a o w hR ((Pit.right_iff _ _ _).1 h)

set_option maxRecDepth 100000 in
set_option maxHeartbeats 4000000 in
theorem between_no1 (s a o t b p : Int) (w : World) (hR : Ready w) (h : Pit.right s a o = false) :
    Calls Tryd.prog 25 #[pt s a o, pt t b p] w fun e w' => e = .returned (.tuple #[iv 0 0, .int .i64 20]) ∧ Below w.heap.size w w' := by
  have hB0 : Below w.heap.size w w := Below.refl _ _
  go_enter Tryd.func25, Tryd.ntmps25
  go_wp2_with fail
  have hR' := hR.below (((hB0.alloc hB0.size (.cells #[.int .i64 s, .int .i64 a, .int .i64 o] 23)).alloc (hB0.alloc hB0.size (.cells #[.int .i64 s, .int .i64 a, .int .i64 o] 23)).size (.cells #[.int .i64 t, .int .i64 b, .int .i64 p] 23)).alloc ((hB0.alloc hB0.size (.cells #[.int .i64 s, .int .i64 a, .int .i64 o] 23)).alloc (hB0.alloc hB0.size (.cells #[.int .i64 s, .int .i64 a, .int .i64 o] 23)).size (.cells #[.int .i64 t, .int .i64 b, .int .i64 p] 23)).size (.cells #[.int .i64 0, .int .i64 0] 25))
  refine (right_no h _ hR').mono ?_
  rintro e w1 ⟨rfl, hb1⟩
  clear hR'
  have hs1 : Below w.heap.size w w1 := Below.trans (by repeat (first | exact Below.refl _ _ | refine Below.alloc ?_ (by simp <;> omega) _)) (hb1.mono (by simp <;> omega))
  have c_r_0 : w1.cell? ⟨w.heap.size + 1 + 1, 0, none⟩ = some (.int .i64 0) := (hb1.cell (by simp <;> omega)).trans (by go_simp)
  have f_r_0 : w1.frozen? ⟨w.heap.size + 1 + 1, 0, none⟩ = false := (hb1.frozen (by simp <;> omega)).trans (by go_simp)
  have c_r_1 : w1.cell? ⟨w.heap.size + 1 + 1, 1, none⟩ = some (.int .i64 0) := (hb1.cell (by simp <;> omega)).trans (by go_simp)
  have f_r_1 : w1.frozen? ⟨w.heap.size + 1 + 1, 1, none⟩ = false := (hb1.frozen (by simp <;> omega)).trans (by go_simp)
  have z_r := World.block_lt_of_cell? _ _ c_r_0
  have hB1 := below_two hB0 hs1
  clear hB0 hs1 hb1
  obtain ⟨m0, m1⟩ := put2_of (x := .int .i64 0) (y := .int .i64 0) c_r_0 c_r_1
  go_wp2
  exact bodyPost_ret (v := .tuple #[.agg #[.int .i64 0, .int .i64 0], .int .i64 20]) (by simp [results, Tryd.results25, go_sem, m0, m1]) rfl ⟨rfl, put2_below hB1 (by omega)⟩

set_option maxRecDepth 100000 in
set_option maxHeartbeats 4000000 in
theorem between_no2 (s a o t b p : Int) (w : World) (hR : Ready w) (h1 : Pit.IsRight s a o) (h : Pit.right t b p = false) :
    Calls Tryd.prog 25 #[pt s a o, pt t b p] w fun e w' => e = .returned (.tuple #[iv 0 0, .int .i64 20]) ∧ Below w.heap.size w w' := by
  have hB0 : Below w.heap.size w w := Below.refl _ _
  go_enter Tryd.func25, Tryd.ntmps25
  go_wp2_with fail
  have hR' := hR.below (((hB0.alloc hB0.size (.cells #[.int .i64 s, .int .i64 a, .int .i64 o] 23)).alloc (hB0.alloc hB0.size (.cells #[.int .i64 s, .int .i64 a, .int .i64 o] 23)).size (.cells #[.int .i64 t, .int .i64 b, .int .i64 p] 23)).alloc ((hB0.alloc hB0.size (.cells #[.int .i64 s, .int .i64 a, .int .i64 o] 23)).alloc (hB0.alloc hB0.size (.cells #[.int .i64 s, .int .i64 a, .int .i64 o] 23)).size (.cells #[.int .i64 t, .int .i64 b, .int .i64 p] 23)).size (.cells #[.int .i64 0, .int .i64 0] 25))
  refine (right_yes h1 _ hR').mono ?_
  rintro e w1 ⟨rfl, hb1⟩
  clear hR'
  have hs1 : Below w.heap.size w w1 := Below.trans (by repeat (first | exact Below.refl _ _ | refine Below.alloc ?_ (by simp <;> omega) _)) (hb1.mono (by simp <;> omega))
  have c_a_0 : w1.cell? ⟨w.heap.size, 0, none⟩ = some (.int .i64 s) := (hb1.cell (by simp <;> omega)).trans (by go_simp)
  have c_a_1 : w1.cell? ⟨w.heap.size, 1, none⟩ = some (.int .i64 a) := (hb1.cell (by simp <;> omega)).trans (by go_simp)
  have c_a_2 : w1.cell? ⟨w.heap.size, 2, none⟩ = some (.int .i64 o) := (hb1.cell (by simp <;> omega)).trans (by go_simp)
  have c_b_0 : w1.cell? ⟨w.heap.size + 1, 0, none⟩ = some (.int .i64 t) := (hb1.cell (by simp <;> omega)).trans (by go_simp)
  have c_b_1 : w1.cell? ⟨w.heap.size + 1, 1, none⟩ = some (.int .i64 b) := (hb1.cell (by simp <;> omega)).trans (by go_simp)
  have c_b_2 : w1.cell? ⟨w.heap.size + 1, 2, none⟩ = some (.int .i64 p) := (hb1.cell (by simp <;> omega)).trans (by go_simp)
  have c_r_0 : w1.cell? ⟨w.heap.size + 1 + 1, 0, none⟩ = some (.int .i64 0) := (hb1.cell (by simp <;> omega)).trans (by go_simp)
  have f_r_0 : w1.frozen? ⟨w.heap.size + 1 + 1, 0, none⟩ = false := (hb1.frozen (by simp <;> omega)).trans (by go_simp)
  have c_r_1 : w1.cell? ⟨w.heap.size + 1 + 1, 1, none⟩ = some (.int .i64 0) := (hb1.cell (by simp <;> omega)).trans (by go_simp)
  have f_r_1 : w1.frozen? ⟨w.heap.size + 1 + 1, 1, none⟩ = false := (hb1.frozen (by simp <;> omega)).trans (by go_simp)
  have z_a := World.block_lt_of_cell? _ _ c_a_0
  have z_b := World.block_lt_of_cell? _ _ c_b_0
  have z_r := World.block_lt_of_cell? _ _ c_r_0
  have hB1 := below_two hB0 hs1
  clear hB0 hs1 hb1
  go_wp2_with fail
  have hR' := hR.below hB1
  refine (right_no h _ hR').mono ?_
  rintro e w2 ⟨rfl, hb2⟩
  clear hR'
  have hs2 := hb2
  clear c_a_0
  clear c_a_1
  clear c_a_2
  clear c_b_0
  clear c_b_1
  clear c_b_2
  replace f_r_0 := frozen_later hs2 c_r_0 f_r_0
  replace c_r_0 := cell_later hs2 c_r_0
  replace f_r_1 := frozen_later hs2 c_r_1 f_r_1
  replace c_r_1 := cell_later hs2 c_r_1
  clear z_r
  have z_r := World.block_lt_of_cell? _ _ c_r_0
  clear z_a
  clear z_b
  have hB2 := below_two hB1 hs2
  clear hB1 hs2
  obtain ⟨m0, m1⟩ := put2_of (x := .int .i64 0) (y := .int .i64 0) c_r_0 c_r_1
  go_wp2
  exact bodyPost_ret (v := .tuple #[.agg #[.int .i64 0, .int .i64 0], .int .i64 20]) (by simp [results, Tryd.results25, go_sem, m0, m1]) rfl ⟨rfl, put2_below hB2 (by omega)⟩

set_option maxRecDepth 100000 in
set_option maxHeartbeats 4000000 in
theorem between_raw (s a o t b p : Int) (w : World) (hR : Ready w) (h1 : Pit.IsRight s a o) (h2 : Pit.IsRight t b p) :
    Calls Tryd.prog 25 #[pt s a o, pt t b p] w fun e w' => e = .returned (.tuple #[iv (IntKind.i64.wrap (Pit.lin t p - Pit.lin s o)) (IntKind.i64.wrap (Pit.num t b p - Pit.num s a o)), .int .i64 0]) ∧ Below w.heap.size w w' := by
  have hB0 : Below w.heap.size w w := Below.refl _ _
  go_enter Tryd.func25, Tryd.ntmps25
  go_wp2_with fail
  have hR' := hR.below (((hB0.alloc hB0.size (.cells #[.int .i64 s, .int .i64 a, .int .i64 o] 23)).alloc (hB0.alloc hB0.size (.cells #[.int .i64 s, .int .i64 a, .int .i64 o] 23)).size (.cells #[.int .i64 t, .int .i64 b, .int .i64 p] 23)).alloc ((hB0.alloc hB0.size (.cells #[.int .i64 s, .int .i64 a, .int .i64 o] 23)).alloc (hB0.alloc hB0.size (.cells #[.int .i64 s, .int .i64 a, .int .i64 o] 23)).size (.cells #[.int .i64 t, .int .i64 b, .int .i64 p] 23)).size (.cells #[.int .i64 0, .int .i64 0] 25))
  refine (right_yes h1 _ hR').mono ?_
  rintro e w1 ⟨rfl, hb1⟩
  clear hR'
  have hs1 : Below w.heap.size w w1 := Below.trans (by repeat (first | exact Below.refl _ _ | refine Below.alloc ?_ (by simp <;> omega) _)) (hb1.mono (by simp <;> omega))
  have c_a_0 : w1.cell? ⟨w.heap.size, 0, none⟩ = some (.int .i64 s) := (hb1.cell (by simp <;> omega)).trans (by go_simp)
  have c_a_1 : w1.cell? ⟨w.heap.size, 1, none⟩ = some (.int .i64 a) := (hb1.cell (by simp <;> omega)).trans (by go_simp)
  have c_a_2 : w1.cell? ⟨w.heap.size, 2, none⟩ = some (.int .i64 o) := (hb1.cell (by simp <;> omega)).trans (by go_simp)
  have c_b_0 : w1.cell? ⟨w.heap.size + 1, 0, none⟩ = some (.int .i64 t) := (hb1.cell (by simp <;> omega)).trans (by go_simp)
  have c_b_1 : w1.cell? ⟨w.heap.size + 1, 1, none⟩ = some (.int .i64 b) := (hb1.cell (by simp <;> omega)).trans (by go_simp)
  have c_b_2 : w1.cell? ⟨w.heap.size + 1, 2, none⟩ = some (.int .i64 p) := (hb1.cell (by simp <;> omega)).trans (by go_simp)
  have c_r_0 : w1.cell? ⟨w.heap.size + 1 + 1, 0, none⟩ = some (.int .i64 0) := (hb1.cell (by simp <;> omega)).trans (by go_simp)
  have f_r_0 : w1.frozen? ⟨w.heap.size + 1 + 1, 0, none⟩ = false := (hb1.frozen (by simp <;> omega)).trans (by go_simp)
  have c_r_1 : w1.cell? ⟨w.heap.size + 1 + 1, 1, none⟩ = some (.int .i64 0) := (hb1.cell (by simp <;> omega)).trans (by go_simp)
  have f_r_1 : w1.frozen? ⟨w.heap.size + 1 + 1, 1, none⟩ = false := (hb1.frozen (by simp <;> omega)).trans (by go_simp)
  have z_a := World.block_lt_of_cell? _ _ c_a_0
  have z_b := World.block_lt_of_cell? _ _ c_b_0
  have z_r := World.block_lt_of_cell? _ _ c_r_0
  have hB1 := below_two hB0 hs1
  clear hB0 hs1 hb1
  go_wp2_with fail
  have hR' := hR.below hB1
  refine (right_yes h2 _ hR').mono ?_
  rintro e w2 ⟨rfl, hb2⟩
  clear hR'
  have hs2 := hb2
  replace c_a_0 := cell_later hs2 c_a_0
  replace c_a_1 := cell_later hs2 c_a_1
  replace c_a_2 := cell_later hs2 c_a_2
  replace c_b_0 := cell_later hs2 c_b_0
  replace c_b_1 := cell_later hs2 c_b_1
  replace c_b_2 := cell_later hs2 c_b_2
  replace f_r_0 := frozen_later hs2 c_r_0 f_r_0
  replace c_r_0 := cell_later hs2 c_r_0
  replace f_r_1 := frozen_later hs2 c_r_1 f_r_1
  replace c_r_1 := cell_later hs2 c_r_1
  clear z_a
  have z_a := World.block_lt_of_cell? _ _ c_a_0
  clear z_b
  have z_b := World.block_lt_of_cell? _ _ c_b_0
  clear z_r
  have z_r := World.block_lt_of_cell? _ _ c_r_0
  have hB2 := below_two hB1 hs2
  clear hB1 hs2
  go_wp2_with fail
  go_region_held3 (fun w' => w'.cell? ⟨w.heap.size, 0, none⟩ = some (.int .i64 s) ∧ w'.cell? ⟨w.heap.size, 1, none⟩ = some (.int .i64 a) ∧ w'.cell? ⟨w.heap.size, 2, none⟩ = some (.int .i64 o) ∧ w'.cell? ⟨w.heap.size + 1, 0, none⟩ = some (.int .i64 t) ∧ w'.cell? ⟨w.heap.size + 1, 1, none⟩ = some (.int .i64 b) ∧ w'.cell? ⟨w.heap.size + 1, 2, none⟩ = some (.int .i64 p) ∧ w'.cell? ⟨w.heap.size + 1 + 1, 0, none⟩ = some (heldAt w' ⟨w.heap.size + 1 + 1, 0, none⟩) ∧ w'.frozen? ⟨w.heap.size + 1 + 1, 0, none⟩ = false ∧ w'.cell? ⟨w.heap.size + 1 + 1, 1, none⟩ = some (heldAt w' ⟨w.heap.size + 1 + 1, 1, none⟩) ∧ w'.frozen? ⟨w.heap.size + 1 + 1, 1, none⟩ = false ∧ Below w.heap.size w w')
    (((try go_split_ands); refine ⟨?_, ?_, ?_, ?_, ?_, ?_, ?_, ?_, ?_, ?_, ?_⟩ <;> first | with_reducible assumption | (with_reducible refine cell_later hq ?_; with_reducible assumption) | (with_reducible refine below_two ?_ hq; with_reducible assumption) | (with_reducible refine frozen_later (v := ?_) hq ?_ ?_; rotate_left; with_reducible assumption; with_reducible assumption) | (with_reducible refine held_later hq ?_; with_reducible assumption) | (with_reducible refine frozen_held hq ?_ ?_ <;> with_reducible assumption) | (with_reducible refine set_far ?_ (set_far ?_ ?_); omega; omega; with_reducible assumption) | (with_reducible refine set_held (set_held ?_); with_reducible assumption) | (with_reducible refine set_frozen (set_frozen ?_); with_reducible assumption) | (with_reducible refine put2_below ?_ ?_; with_reducible assumption; omega) | with_reducible exact cell_drew c_a_0 | with_reducible exact cell_drew c_a_1 | with_reducible exact cell_drew c_a_2 | with_reducible exact cell_drew c_b_0 | with_reducible exact cell_drew c_b_1 | with_reducible exact cell_drew c_b_2 | with_reducible exact held_drew (held_of c_r_0) | with_reducible exact frozen_drew f_r_0 | with_reducible exact held_drew (held_of c_r_1) | with_reducible exact frozen_drew f_r_1 | with_reducible exact hB2.drew))
    (first
      | (go_at_call 33; refine (line_any _ _ _ _ ?_).mono ?_; (first | exact h1 | exact h2); rintro e w3 ⟨rfl, hq⟩)
      | (go_at_call 31; (try go_split_ands); refine (number_right ?_ _ (hR.below ?_)).mono ?_; (first | exact h1 | exact h2); assumption; rintro e w3 ⟨rfl, hq⟩))
  rename_i hS
  clear c_a_0 c_a_1 c_a_2 c_b_0 c_b_1 c_b_2 c_r_0 c_r_1 f_r_0 f_r_1 hB2 z_a z_b z_r
  obtain ⟨c_a_0, c_a_1, c_a_2, c_b_0, c_b_1, c_b_2, h_c_r_0, f_c_r_0, h_c_r_1, f_c_r_1, hB3⟩ := hS
  have z_a := World.block_lt_of_cell? _ _ c_a_0
  have z_b := World.block_lt_of_cell? _ _ c_b_0
  obtain ⟨m0, m1⟩ := put2_at h_c_r_0 h_c_r_1
  go_wp2
  exact bodyPost_ret (v := .tuple #[iv (IntKind.i64.wrap (Pit.lin t p - Pit.lin s o)) (IntKind.i64.wrap (Pit.num t b p - Pit.num s a o)), .int .i64 0]) (by simp [results, Tryd.results25, go_sem, m0, m1]) rfl ⟨rfl, hB3⟩

theorem lin_bounds {s a o : Int} (h : Pit.IsRight s a o) : -7 ≤ Pit.lin s o ∧ Pit.lin s o ≤ 69 := by
  obtain ⟨h0, h1, h2, h3, h4, h5, -⟩ := h.all
  rw [Pit.lin_eq]; omega
theorem between_yes (s a o t b p : Int) (w : World) (hR : Ready w) (h1 : Pit.IsRight s a o) (h2 : Pit.IsRight t b p) :
    Calls Tryd.prog 25 #[pt s a o, pt t b p] w fun e w' => e = .returned (.tuple #[iv (Pit.lin t p - Pit.lin s o) (Pit.num t b p - Pit.num s a o), .int .i64 0]) ∧ Below w.heap.size w w' := by
  have := between_raw s a o t b p w hR h1 h2
  have l1 := lin_bounds h1
  have l2 := lin_bounds h2
  have n1 := h1.n0
  have n2 := h1.nM
  have n3 := h2.n0
  have n4 := h2.nM
  rw [IntWalk.i64_in _ (by omega), IntWalk.i64_in _ (by omega)] at this
  exact this
/-- What Between answers. -/
def btS (r : Bool) (s o t p : Int) : Int := if r then Pit.lin t p - Pit.lin s o else 0
def btH (r : Bool) (s a o t b p : Int) : Int := if r then Pit.num t b p - Pit.num s a o else 0
theorem between_any (s a o t b p : Int) (w : World) (hR : Ready w) :
    Calls Tryd.prog 25 #[pt s a o, pt t b p] w fun e w' => e = .returned (.tuple #[iv (btS (Pit.right s a o && Pit.right t b p) s o t p) (btH (Pit.right s a o && Pit.right t b p) s a o t b p), .int .i64 (errP (Pit.right s a o && Pit.right t b p))]) ∧ Below w.heap.size w w' := by
  cases h1 : Pit.right s a o
  · exact between_no1 s a o t b p w hR h1
  · cases h2 : Pit.right t b p
    · exact between_no2 s a o t b p w hR ((Pit.right_iff _ _ _).1 h1) h2
    · exact between_yes s a o t b p w hR ((Pit.right_iff _ _ _).1 h1) ((Pit.right_iff _ _ _).1 h2)
end Go.Proofs.YtoopchnncjfjoaaDoor
