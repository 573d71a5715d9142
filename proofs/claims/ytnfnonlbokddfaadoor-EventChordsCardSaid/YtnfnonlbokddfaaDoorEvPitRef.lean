/-
  Out of layer 2: the contracts of the reference's Right, Compare, Up.
-/
import Derived.Test.YtnfnonlbokddfaaDoorEvPit
namespace Go.Proofs.YtnfnonlbokddfaaDoor
open Go.RowKit

/-- What Number and Line answer beside the number. -/
def errP (r : Bool) : Int := if r then 0 else 20

def onlyR (r : Bool) (n : Int) : Int := if r then n else 0

/-- What Between answers. -/
def btS (r : Bool) (s o t p : Int) : Int := if r then Pit.lin t p - Pit.lin s o else 0

def btH (r : Bool) (s a o t b p : Int) : Int := if r then Pit.num t b p - Pit.num s a o else 0

set_option maxHeartbeats 1000000 in
theorem half_any (s : Int) (w : World) (h0 : 0 ≤ s) (h6 : s ≤ 6) :
    Calls Tryd.prog 122 #[.int .i64 s] w fun e w' => e = .returned (.int .i64 (Pit.hv s)) ∧ w = w' := by
  rcases Pit.hv_cases s with ⟨h, e⟩ | ⟨h, e⟩
  · rw [e]
    go_enter Tryd.func122, Tryd.ntmps122
    go_wp2
    go_ret
    exact ⟨rfl, rfl⟩
  · rw [e]
    have h' : ¬ s < 3 := by omega
    go_enter Tryd.func122, Tryd.ntmps122
    go_wp2
    go_ret
    exact ⟨rfl, rfl⟩

set_option maxRecDepth 100000 in
set_option maxHeartbeats 4000000 in
theorem refRight_1 (s a o : Int) (w : World) (h : s < 0) :
    Calls Tryd.prog 83 #[pt s a o] w fun e w' => e = .returned (.bool false) ∧ Below w.heap.size w w' := by
  go_enter Tryd.func83, Tryd.ntmps83
  go_wp2
  go_ret
  exact ⟨rfl, (by repeat (first | exact Below.refl _ _ | refine below_drewN ?_ _ | refine Below.drew ?_ | refine Below.setCell ?_ (by simp <;> omega) _ | refine Below.alloc ?_ (by simp <;> omega) _))⟩

set_option maxRecDepth 100000 in
set_option maxHeartbeats 4000000 in
theorem refRight_2 (s a o : Int) (w : World) (h0 : 0 ≤ s) (h : 6 < s) :
    Calls Tryd.prog 83 #[pt s a o] w fun e w' => e = .returned (.bool false) ∧ Below w.heap.size w w' := by
  go_enter Tryd.func83, Tryd.ntmps83
  go_wp2
  go_ret
  exact ⟨rfl, (by repeat (first | exact Below.refl _ _ | refine below_drewN ?_ _ | refine Below.drew ?_ | refine Below.setCell ?_ (by simp <;> omega) _ | refine Below.alloc ?_ (by simp <;> omega) _))⟩

set_option maxRecDepth 100000 in
set_option maxHeartbeats 4000000 in
theorem refRight_3 (s a o : Int) (w : World) (h0 : 0 ≤ s) (h6 : s ≤ 6) (h : a < -2) :
    Calls Tryd.prog 83 #[pt s a o] w fun e w' => e = .returned (.bool false) ∧ Below w.heap.size w w' := by
  go_enter Tryd.func83, Tryd.ntmps83
  go_wp2
  go_ret
  exact ⟨rfl, (by repeat (first | exact Below.refl _ _ | refine below_drewN ?_ _ | refine Below.drew ?_ | refine Below.setCell ?_ (by simp <;> omega) _ | refine Below.alloc ?_ (by simp <;> omega) _))⟩

set_option maxRecDepth 100000 in
set_option maxHeartbeats 4000000 in
theorem refRight_4 (s a o : Int) (w : World) (h0 : 0 ≤ s) (h6 : s ≤ 6) (a0 : -2 ≤ a) (h : 2 < a) :
    Calls Tryd.prog 83 #[pt s a o] w fun e w' => e = .returned (.bool false) ∧ Below w.heap.size w w' := by
  go_enter Tryd.func83, Tryd.ntmps83
  go_wp2
  go_ret
  exact ⟨rfl, (by repeat (first | exact Below.refl _ _ | refine below_drewN ?_ _ | refine Below.drew ?_ | refine Below.setCell ?_ (by simp <;> omega) _ | refine Below.alloc ?_ (by simp <;> omega) _))⟩

set_option maxRecDepth 100000 in
set_option maxHeartbeats 4000000 in
theorem refRight_5 (s a o : Int) (w : World) (h0 : 0 ≤ s) (h6 : s ≤ 6) (a0 : -2 ≤ a) (a2 : a ≤ 2) (h : o < -1) :
    Calls Tryd.prog 83 #[pt s a o] w fun e w' => e = .returned (.bool false) ∧ Below w.heap.size w w' := by
  go_enter Tryd.func83, Tryd.ntmps83
  go_wp2
  go_ret
  exact ⟨rfl, (by repeat (first | exact Below.refl _ _ | refine below_drewN ?_ _ | refine Below.drew ?_ | refine Below.setCell ?_ (by simp <;> omega) _ | refine Below.alloc ?_ (by simp <;> omega) _))⟩

set_option maxRecDepth 100000 in
set_option maxHeartbeats 4000000 in
theorem refRight_6 (s a o : Int) (w : World) (h0 : 0 ≤ s) (h6 : s ≤ 6) (a0 : -2 ≤ a) (a2 : a ≤ 2) (o0 : -1 ≤ o) (h : 9 < o) :
    Calls Tryd.prog 83 #[pt s a o] w fun e w' => e = .returned (.bool false) ∧ Below w.heap.size w w' := by
  go_enter Tryd.func83, Tryd.ntmps83
  go_wp2
  go_ret
  exact ⟨rfl, (by repeat (first | exact Below.refl _ _ | refine below_drewN ?_ _ | refine Below.drew ?_ | refine Below.setCell ?_ (by simp <;> omega) _ | refine Below.alloc ?_ (by simp <;> omega) _))⟩

set_option maxRecDepth 100000 in
set_option maxHeartbeats 4000000 in
theorem refRight_7 (s a o : Int) (w : World) (h0 : 0 ≤ s) (h6 : s ≤ 6) (a0 : -2 ≤ a) (a2 : a ≤ 2) (o0 : -1 ≤ o) (o9 : o ≤ 9) (v N : Int) (HV : Hid (Pit.hv s = v)) (hN : IntKind.i64.wrap (IntKind.i64.wrap (IntKind.i64.wrap (12 * IntKind.i64.wrap (o + 1)) + v) + a) = N) (h : N < 0) :
    Calls Tryd.prog 83 #[pt s a o] w fun e w' => e = .returned (.bool false) ∧ Below w.heap.size w w' := by
  have hB0 : Below w.heap.size w w := Below.refl _ _
  go_enter Tryd.func83, Tryd.ntmps83
  go_wp2_with fail
  have hs1 : Below w.heap.size w (w.alloc (.cells #[.int .i64 s, .int .i64 a, .int .i64 o] 57)) := by repeat (first | exact Below.refl _ _ | refine Below.alloc ?_ (by simp <;> omega) _)
  have c_p_0 : (w.alloc (.cells #[.int .i64 s, .int .i64 a, .int .i64 o] 57)).cell? ⟨w.heap.size, 0, none⟩ = some (.int .i64 s) := by go_simp
  have c_p_1 : (w.alloc (.cells #[.int .i64 s, .int .i64 a, .int .i64 o] 57)).cell? ⟨w.heap.size, 1, none⟩ = some (.int .i64 a) := by go_simp
  have c_p_2 : (w.alloc (.cells #[.int .i64 s, .int .i64 a, .int .i64 o] 57)).cell? ⟨w.heap.size, 2, none⟩ = some (.int .i64 o) := by go_simp
  have hB1 := below_two hB0 hs1
  clear hB0 hs1
  generalize (w.alloc (.cells #[.int .i64 s, .int .i64 a, .int .i64 o] 57)) = w1 at *
  have z_p := World.block_lt_of_cell? _ _ c_p_0
  go_region_held3 (fun w' => w'.cell? ⟨w.heap.size, 0, none⟩ = some (.int .i64 s) ∧ w'.cell? ⟨w.heap.size, 1, none⟩ = some (.int .i64 a) ∧ w'.cell? ⟨w.heap.size, 2, none⟩ = some (.int .i64 o) ∧ Below w.heap.size w w')
    (((try go_split_ands); refine ⟨?_, ?_, ?_, ?_⟩ <;> first | with_reducible assumption | (with_reducible refine cell_later hq ?_; with_reducible assumption) | (with_reducible refine below_two ?_ hq; with_reducible assumption) | with_reducible exact cell_drew c_p_0 | with_reducible exact cell_drew c_p_1 | with_reducible exact cell_drew c_p_2 | with_reducible exact hB1.drew))
    (first
      | (go_at_call 122; refine (half_any _ _ h0 h6).mono ?_; rintro e w2 ⟨rfl, rfl⟩; rw [HV.out]))
  rename_i hS
  clear c_p_0 c_p_1 c_p_2 hB1 z_p
  obtain ⟨c_p_0, c_p_1, c_p_2, hB2⟩ := hS
  have z_p := World.block_lt_of_cell? _ _ c_p_0
  go_wp2
  go_ret
  exact ⟨rfl, hB2⟩

set_option maxRecDepth 100000 in
set_option maxHeartbeats 4000000 in
theorem refRight_8 (s a o : Int) (w : World) (h0 : 0 ≤ s) (h6 : s ≤ 6) (a0 : -2 ≤ a) (a2 : a ≤ 2) (o0 : -1 ≤ o) (o9 : o ≤ 9) (v N : Int) (HV : Hid (Pit.hv s = v)) (hN : IntKind.i64.wrap (IntKind.i64.wrap (IntKind.i64.wrap (12 * IntKind.i64.wrap (o + 1)) + v) + a) = N) (h1 : 0 ≤ N) (h : 127 < N) :
    Calls Tryd.prog 83 #[pt s a o] w fun e w' => e = .returned (.bool false) ∧ Below w.heap.size w w' := by
  have hB0 : Below w.heap.size w w := Below.refl _ _
  go_enter Tryd.func83, Tryd.ntmps83
  go_wp2_with fail
  have hs1 : Below w.heap.size w (w.alloc (.cells #[.int .i64 s, .int .i64 a, .int .i64 o] 57)) := by repeat (first | exact Below.refl _ _ | refine Below.alloc ?_ (by simp <;> omega) _)
  have c_p_0 : (w.alloc (.cells #[.int .i64 s, .int .i64 a, .int .i64 o] 57)).cell? ⟨w.heap.size, 0, none⟩ = some (.int .i64 s) := by go_simp
  have c_p_1 : (w.alloc (.cells #[.int .i64 s, .int .i64 a, .int .i64 o] 57)).cell? ⟨w.heap.size, 1, none⟩ = some (.int .i64 a) := by go_simp
  have c_p_2 : (w.alloc (.cells #[.int .i64 s, .int .i64 a, .int .i64 o] 57)).cell? ⟨w.heap.size, 2, none⟩ = some (.int .i64 o) := by go_simp
  have hB1 := below_two hB0 hs1
  clear hB0 hs1
  generalize (w.alloc (.cells #[.int .i64 s, .int .i64 a, .int .i64 o] 57)) = w1 at *
  have z_p := World.block_lt_of_cell? _ _ c_p_0
  go_region_held3 (fun w' => w'.cell? ⟨w.heap.size, 0, none⟩ = some (.int .i64 s) ∧ w'.cell? ⟨w.heap.size, 1, none⟩ = some (.int .i64 a) ∧ w'.cell? ⟨w.heap.size, 2, none⟩ = some (.int .i64 o) ∧ Below w.heap.size w w')
    (((try go_split_ands); refine ⟨?_, ?_, ?_, ?_⟩ <;> first | with_reducible assumption | (with_reducible refine cell_later hq ?_; with_reducible assumption) | (with_reducible refine below_two ?_ hq; with_reducible assumption) | with_reducible exact cell_drew c_p_0 | with_reducible exact cell_drew c_p_1 | with_reducible exact cell_drew c_p_2 | with_reducible exact hB1.drew))
    (first
      | (go_at_call 122; refine (half_any _ _ h0 h6).mono ?_; rintro e w2 ⟨rfl, rfl⟩; rw [HV.out]))
  rename_i hS
  clear c_p_0 c_p_1 c_p_2 hB1 z_p
  obtain ⟨c_p_0, c_p_1, c_p_2, hB2⟩ := hS
  have z_p := World.block_lt_of_cell? _ _ c_p_0
  go_wp2
  go_ret
  exact ⟨ret_bool (decide_eq_false (by omega)), hB2⟩

set_option maxRecDepth 100000 in
set_option maxHeartbeats 4000000 in
theorem refRight_9 (s a o : Int) (w : World) (h0 : 0 ≤ s) (h6 : s ≤ 6) (a0 : -2 ≤ a) (a2 : a ≤ 2) (o0 : -1 ≤ o) (o9 : o ≤ 9) (v N : Int) (HV : Hid (Pit.hv s = v)) (hN : IntKind.i64.wrap (IntKind.i64.wrap (IntKind.i64.wrap (12 * IntKind.i64.wrap (o + 1)) + v) + a) = N) (h1 : 0 ≤ N) (h : N ≤ 127) :
    Calls Tryd.prog 83 #[pt s a o] w fun e w' => e = .returned (.bool true) ∧ Below w.heap.size w w' := by
  have hB0 : Below w.heap.size w w := Below.refl _ _
  go_enter Tryd.func83, Tryd.ntmps83
  go_wp2_with fail
  have hs1 : Below w.heap.size w (w.alloc (.cells #[.int .i64 s, .int .i64 a, .int .i64 o] 57)) := by repeat (first | exact Below.refl _ _ | refine Below.alloc ?_ (by simp <;> omega) _)
  have c_p_0 : (w.alloc (.cells #[.int .i64 s, .int .i64 a, .int .i64 o] 57)).cell? ⟨w.heap.size, 0, none⟩ = some (.int .i64 s) := by go_simp
  have c_p_1 : (w.alloc (.cells #[.int .i64 s, .int .i64 a, .int .i64 o] 57)).cell? ⟨w.heap.size, 1, none⟩ = some (.int .i64 a) := by go_simp
  have c_p_2 : (w.alloc (.cells #[.int .i64 s, .int .i64 a, .int .i64 o] 57)).cell? ⟨w.heap.size, 2, none⟩ = some (.int .i64 o) := by go_simp
  have hB1 := below_two hB0 hs1
  clear hB0 hs1
  generalize (w.alloc (.cells #[.int .i64 s, .int .i64 a, .int .i64 o] 57)) = w1 at *
  have z_p := World.block_lt_of_cell? _ _ c_p_0
  go_region_held3 (fun w' => w'.cell? ⟨w.heap.size, 0, none⟩ = some (.int .i64 s) ∧ w'.cell? ⟨w.heap.size, 1, none⟩ = some (.int .i64 a) ∧ w'.cell? ⟨w.heap.size, 2, none⟩ = some (.int .i64 o) ∧ Below w.heap.size w w')
    (((try go_split_ands); refine ⟨?_, ?_, ?_, ?_⟩ <;> first | with_reducible assumption | (with_reducible refine cell_later hq ?_; with_reducible assumption) | (with_reducible refine below_two ?_ hq; with_reducible assumption) | with_reducible exact cell_drew c_p_0 | with_reducible exact cell_drew c_p_1 | with_reducible exact cell_drew c_p_2 | with_reducible exact hB1.drew))
    (first
      | (go_at_call 122; refine (half_any _ _ h0 h6).mono ?_; rintro e w2 ⟨rfl, rfl⟩; rw [HV.out]))
  rename_i hS
  clear c_p_0 c_p_1 c_p_2 hB1 z_p
  obtain ⟨c_p_0, c_p_1, c_p_2, hB2⟩ := hS
  have z_p := World.block_lt_of_cell? _ _ c_p_0
  go_wp2
  go_ret
  exact ⟨rfl, hB2⟩

theorem refRight_any (s a o : Int) (w : World) :
    Calls Tryd.prog 83 #[pt s a o] w fun e w' => e = .returned (.bool (Pit.right s a o)) ∧ Below w.heap.size w w' := by
  by_cases h1 : s < 0
  · rw [Pit.right_false fun h => by have := h.s0; omega]; exact refRight_1 s a o w h1
  by_cases h2 : 6 < s
  · rw [Pit.right_false fun h => by have := h.s6; omega]; exact refRight_2 s a o w (by omega) h2
  by_cases h3 : a < -2
  · rw [Pit.right_false fun h => by have := h.a0; omega]; exact refRight_3 s a o w (by omega) (by omega) h3
  by_cases h4 : 2 < a
  · rw [Pit.right_false fun h => by have := h.a2; omega]; exact refRight_4 s a o w (by omega) (by omega) (by omega) h4
  by_cases h5 : o < -1
  · rw [Pit.right_false fun h => by have := h.o0; omega]; exact refRight_5 s a o w (by omega) (by omega) (by omega) (by omega) h5
  by_cases h6 : 9 < o
  · rw [Pit.right_false fun h => by have := h.o9; omega]; exact refRight_6 s a o w (by omega) (by omega) (by omega) (by omega) (by omega) h6
  have hv : -20 ≤ Pit.hv s ∧ Pit.hv s ≤ 20 := by rcases Pit.hv_cases s with ⟨_, e⟩ | ⟨_, e⟩ <;> omega
  have hN : IntKind.i64.wrap (IntKind.i64.wrap (IntKind.i64.wrap (12 * IntKind.i64.wrap (o + 1)) + Pit.hv s) + a) = Pit.num s a o := by
    rw [IntWalk.i64_in (o + 1) (by omega), IntWalk.i64_in (12 * (o + 1)) (by omega), IntWalk.i64_in (12 * (o + 1) + Pit.hv s) (by omega), IntWalk.i64_in _ (by omega)]
    rfl
  by_cases h7 : Pit.num s a o < 0
  · rw [Pit.right_false fun h => by have := h.n0; omega]
    exact refRight_7 s a o w (by omega) (by omega) (by omega) (by omega) (by omega) (by omega) _ _ (Lib.hid rfl) hN h7
  by_cases h8 : 127 < Pit.num s a o
  · rw [Pit.right_false fun h => by have := h.nM; omega]
    exact refRight_8 s a o w (by omega) (by omega) (by omega) (by omega) (by omega) (by omega) _ _ (Lib.hid rfl) hN (by omega) h8
  · rw [Pit.right_true ⟨by omega, by omega, by omega, by omega, by omega, by omega, by omega, by omega⟩]
    exact refRight_9 s a o w (by omega) (by omega) (by omega) (by omega) (by omega) (by omega) _ _ (Lib.hid rfl) hN (by omega) (by omega)

set_option maxRecDepth 100000 in
set_option maxHeartbeats 4000000 in
theorem refNumber_no (s a o : Int) (w : World) (h : Pit.right s a o = false) :
    Calls Tryd.prog 86 #[pt s a o] w fun e w' => e = .returned (.tuple #[.int .i64 0, .int .i64 20]) ∧ Below w.heap.size w w' := by
  have hB0 : Below w.heap.size w w := Below.refl _ _
  go_enter Tryd.func86, Tryd.ntmps86
  go_wp2_with fail
  refine (refRight_any _ _ _ _).mono ?_
  rintro e w1 ⟨rfl, hb1⟩
  have hs1 : Below w.heap.size w w1 := Below.trans (by repeat (first | exact Below.refl _ _ | refine Below.alloc ?_ (by simp <;> omega) _)) (hb1.mono (by simp <;> omega))
  have hB1 := below_two hB0 hs1
  clear hB0 hs1 hb1
  rw [h]
  go_wp2
  go_ret2
  exact ⟨rfl, hB1⟩

set_option maxRecDepth 100000 in
set_option maxHeartbeats 4000000 in
theorem refLine_no (s a o : Int) (w : World) (h : Pit.right s a o = false) :
    Calls Tryd.prog 85 #[pt s a o] w fun e w' => e = .returned (.tuple #[.int .i64 0, .int .i64 20]) ∧ Below w.heap.size w w' := by
  have hB0 : Below w.heap.size w w := Below.refl _ _
  go_enter Tryd.func85, Tryd.ntmps85
  go_wp2_with fail
  refine (refRight_any _ _ _ _).mono ?_
  rintro e w1 ⟨rfl, hb1⟩
  have hs1 : Below w.heap.size w w1 := Below.trans (by repeat (first | exact Below.refl _ _ | refine Below.alloc ?_ (by simp <;> omega) _)) (hb1.mono (by simp <;> omega))
  have hB1 := below_two hB0 hs1
  clear hB0 hs1 hb1
  rw [h]
  go_wp2
  go_ret2
  exact ⟨rfl, hB1⟩

set_option maxRecDepth 100000 in
set_option maxHeartbeats 4000000 in
theorem refNumber_yes (s a o : Int) (w : World) (h : Pit.IsRight s a o) (hr : Pit.right s a o = true) (v N : Int) (HV : Hid (Pit.hv s = v)) (hN : IntKind.i64.wrap (IntKind.i64.wrap (IntKind.i64.wrap (12 * IntKind.i64.wrap (o + 1)) + v) + a) = N) :
    Calls Tryd.prog 86 #[pt s a o] w fun e w' => e = .returned (.tuple #[.int .i64 N, .int .i64 0]) ∧ Below w.heap.size w w' := by
  have hB0 : Below w.heap.size w w := Below.refl _ _
  go_enter Tryd.func86, Tryd.ntmps86
  go_wp2_with fail
  refine (refRight_any _ _ _ _).mono ?_
  rintro e w1 ⟨rfl, hb1⟩
  have hs1 : Below w.heap.size w w1 := Below.trans (by repeat (first | exact Below.refl _ _ | refine Below.alloc ?_ (by simp <;> omega) _)) (hb1.mono (by simp <;> omega))
  have c_p_0 : w1.cell? ⟨w.heap.size, 0, none⟩ = some (.int .i64 s) := (hb1.cell (by simp <;> omega)).trans (by go_simp)
  have c_p_1 : w1.cell? ⟨w.heap.size, 1, none⟩ = some (.int .i64 a) := (hb1.cell (by simp <;> omega)).trans (by go_simp)
  have c_p_2 : w1.cell? ⟨w.heap.size, 2, none⟩ = some (.int .i64 o) := (hb1.cell (by simp <;> omega)).trans (by go_simp)
  have z_p := World.block_lt_of_cell? _ _ c_p_0
  have hB1 := below_two hB0 hs1
  clear hB0 hs1 hb1
  rw [hr]
  go_wp2_with fail
  go_region_held3 (fun w' => w'.cell? ⟨w.heap.size, 0, none⟩ = some (.int .i64 s) ∧ w'.cell? ⟨w.heap.size, 1, none⟩ = some (.int .i64 a) ∧ w'.cell? ⟨w.heap.size, 2, none⟩ = some (.int .i64 o) ∧ Below w.heap.size w w')
    (((try go_split_ands); refine ⟨?_, ?_, ?_, ?_⟩ <;> first | with_reducible assumption | (with_reducible refine cell_later hq ?_; with_reducible assumption) | (with_reducible refine below_two ?_ hq; with_reducible assumption) | with_reducible exact cell_drew c_p_0 | with_reducible exact cell_drew c_p_1 | with_reducible exact cell_drew c_p_2 | with_reducible exact hB1.drew))
    (first
      | (go_at_call 122; refine (half_any _ _ h.s0 h.s6).mono ?_; rintro e w2 ⟨rfl, rfl⟩; rw [HV.out]))
  rename_i hS
  clear c_p_0 c_p_1 c_p_2 hB1 z_p
  obtain ⟨c_p_0, c_p_1, c_p_2, hB2⟩ := hS
  have z_p := World.block_lt_of_cell? _ _ c_p_0
  go_wp2
  go_ret2
  exact ⟨rfl, hB2⟩

set_option maxRecDepth 100000 in
set_option maxHeartbeats 4000000 in
theorem refLine_yes (s a o : Int) (w : World) (hr : Pit.right s a o = true) (b0 : 0 ≤ s) (b1 : s ≤ 6) (b2 : -1 ≤ o) (b3 : o ≤ 9) :
    Calls Tryd.prog 85 #[pt s a o] w fun e w' => e = .returned (.tuple #[.int .i64 (7 * o + s), .int .i64 0]) ∧ Below w.heap.size w w' := by
  have hB0 : Below w.heap.size w w := Below.refl _ _
  go_enter Tryd.func85, Tryd.ntmps85
  go_wp2_with fail
  refine (refRight_any _ _ _ _).mono ?_
  rintro e w1 ⟨rfl, hb1⟩
  have hs1 : Below w.heap.size w w1 := Below.trans (by repeat (first | exact Below.refl _ _ | refine Below.alloc ?_ (by simp <;> omega) _)) (hb1.mono (by simp <;> omega))
  have c_p_0 : w1.cell? ⟨w.heap.size, 0, none⟩ = some (.int .i64 s) := (hb1.cell (by simp <;> omega)).trans (by go_simp)
  have c_p_1 : w1.cell? ⟨w.heap.size, 1, none⟩ = some (.int .i64 a) := (hb1.cell (by simp <;> omega)).trans (by go_simp)
  have c_p_2 : w1.cell? ⟨w.heap.size, 2, none⟩ = some (.int .i64 o) := (hb1.cell (by simp <;> omega)).trans (by go_simp)
  have z_p := World.block_lt_of_cell? _ _ c_p_0
  have hB1 := below_two hB0 hs1
  clear hB0 hs1 hb1
  rw [hr]
  go_wp2
  go_ret2
  exact ⟨rfl, hB1⟩

theorem refNumber_any (s a o : Int) (w : World) :
    Calls Tryd.prog 86 #[pt s a o] w fun e w' => e = .returned (.tuple #[.int .i64 (onlyR (Pit.right s a o) (Pit.num s a o)), .int .i64 (errP (Pit.right s a o))]) ∧ Below w.heap.size w w' := by
  cases hr : Pit.right s a o with
  | false => exact refNumber_no s a o w hr
  | true =>
    have h := (Pit.right_iff _ _ _).1 hr
    obtain ⟨h0, h1, h2, h3, h4, h5, -⟩ := h.all
    have hv : -20 ≤ Pit.hv s ∧ Pit.hv s ≤ 20 := by rcases Pit.hv_cases s with ⟨_, e⟩ | ⟨_, e⟩ <;> omega
    have hN : IntKind.i64.wrap (IntKind.i64.wrap (IntKind.i64.wrap (12 * IntKind.i64.wrap (o + 1)) + Pit.hv s) + a) = Pit.num s a o := by
      rw [IntWalk.i64_in (o + 1) (by omega), IntWalk.i64_in (12 * (o + 1)) (by omega), IntWalk.i64_in (12 * (o + 1) + Pit.hv s) (by omega), IntWalk.i64_in _ (by omega)]
      rfl
    exact refNumber_yes s a o w h hr _ _ (Lib.hid rfl) hN

theorem refLine_any (s a o : Int) (w : World) :
    Calls Tryd.prog 85 #[pt s a o] w fun e w' => e = .returned (.tuple #[.int .i64 (onlyR (Pit.right s a o) (Pit.lin s o)), .int .i64 (errP (Pit.right s a o))]) ∧ Below w.heap.size w w' := by
  cases hr : Pit.right s a o with
  | false => exact refLine_no s a o w hr
  | true =>
    have h := (Pit.right_iff _ _ _).1 hr
    exact refLine_yes s a o w hr h.s0 h.s6 h.o0 h.o9

set_option maxRecDepth 100000 in
set_option maxHeartbeats 4000000 in
theorem refBetween_no1 (s a o t b p : Int) (w : World) (HP : Hid (Pit.right s a o = false)) (HQ : Hid (Pit.right t b p = false)) :
    Calls Tryd.prog 123 #[pt s a o, pt t b p] w fun e w' => e = .returned (.tuple #[iv 0 0, .int .i64 20]) ∧ Below w.heap.size w w' := by
  have hB0 : Below w.heap.size w w := Below.refl _ _
  go_enter Tryd.func123, Tryd.ntmps123
  go_wp2_with fail
  refine (refLine_any _ _ _ _).mono ?_
  rintro e w1 ⟨rfl, hb1⟩
  have hs1 : Below w.heap.size w w1 := Below.trans (by repeat (first | exact Below.refl _ _ | refine Below.alloc ?_ (by simp <;> omega) _)) (hb1.mono (by simp <;> omega))
  have c_a_0 : w1.cell? ⟨w.heap.size, 0, none⟩ = some (.int .i64 s) := (hb1.cell (by simp <;> omega)).trans (by go_simp)
  have c_a_1 : w1.cell? ⟨w.heap.size, 1, none⟩ = some (.int .i64 a) := (hb1.cell (by simp <;> omega)).trans (by go_simp)
  have c_a_2 : w1.cell? ⟨w.heap.size, 2, none⟩ = some (.int .i64 o) := (hb1.cell (by simp <;> omega)).trans (by go_simp)
  have c_b_0 : w1.cell? ⟨w.heap.size + 1, 0, none⟩ = some (.int .i64 t) := (hb1.cell (by simp <;> omega)).trans (by go_simp)
  have c_b_1 : w1.cell? ⟨w.heap.size + 1, 1, none⟩ = some (.int .i64 b) := (hb1.cell (by simp <;> omega)).trans (by go_simp)
  have c_b_2 : w1.cell? ⟨w.heap.size + 1, 2, none⟩ = some (.int .i64 p) := (hb1.cell (by simp <;> omega)).trans (by go_simp)
  have c_r_0 : w1.cell? ⟨w.heap.size + 1 + 1, 0, none⟩ = some (.int .i64 0) := (hb1.cell (by simp <;> omega)).trans (by go_simp)
  have f_r_0 : w1.frozen? ⟨w.heap.size + 1 + 1, 0, none⟩ = false := (hb1.frozen (by simp <;> omega)).trans (by go_simp)
  have c_r_1 : w1.cell? ⟨w.heap.size + 1 + 1, 1, none⟩ = some (.int .i64 0) := (hb1.cell (by simp <;> omega)).trans (by go_simp)
  have f_r_1 : w1.frozen? ⟨w.heap.size + 1 + 1, 1, none⟩ = false := (hb1.frozen (by simp <;> omega)).trans (by go_simp)
  have z_a := World.block_lt_of_cell? _ _ c_a_0
  have z_b := World.block_lt_of_cell? _ _ c_b_0
  have z_r := World.block_lt_of_cell? _ _ c_r_0
  have hB1 := below_two hB0 hs1
  clear hB0 hs1 hb1
  rw [HP.out]
  simp only [onlyR, errP, if_false, Bool.false_eq_true]
  go_wp2_with fail
  refine (refLine_any _ _ _ _).mono ?_
  rintro e w2 ⟨rfl, hb2⟩
  have hs2 := hb2
  clear c_a_0
  clear c_a_1
  clear c_a_2
  clear c_b_0
  clear c_b_1
  clear c_b_2
  replace f_r_0 := frozen_later hs2 c_r_0 f_r_0
  replace c_r_0 := cell_later hs2 c_r_0
  replace f_r_1 := frozen_later hs2 c_r_1 f_r_1
  replace c_r_1 := cell_later hs2 c_r_1
  clear z_r
  have z_r := World.block_lt_of_cell? _ _ c_r_0
  clear z_a
  clear z_b
  have hB2 := below_two hB1 hs2
  clear hB1 hs2
  rw [HQ.out]
  simp only [onlyR, errP, if_false, Bool.false_eq_true]
  obtain ⟨m0, m1⟩ := put2_of (x := .int .i64 0) (y := .int .i64 0) c_r_0 c_r_1
  go_wp2
  exact bodyPost_ret (v := .tuple #[.agg #[.int .i64 0, .int .i64 0], .int .i64 20]) (by simp [results, Tryd.results123, go_sem, m0, m1]) rfl ⟨rfl, put2_below hB2 (by omega)⟩

set_option maxRecDepth 100000 in
set_option maxHeartbeats 4000000 in
theorem refBetween_no1b (s a o t b p : Int) (w : World) (HP : Hid (Pit.right s a o = false)) (HQ : Hid (Pit.right t b p = true)) (y : Int) (HY : Hid (Pit.lin t p = y)) :
    Calls Tryd.prog 123 #[pt s a o, pt t b p] w fun e w' => e = .returned (.tuple #[iv 0 0, .int .i64 20]) ∧ Below w.heap.size w w' := by
  have hB0 : Below w.heap.size w w := Below.refl _ _
  go_enter Tryd.func123, Tryd.ntmps123
  go_wp2_with fail
  refine (refLine_any _ _ _ _).mono ?_
  rintro e w1 ⟨rfl, hb1⟩
  have hs1 : Below w.heap.size w w1 := Below.trans (by repeat (first | exact Below.refl _ _ | refine Below.alloc ?_ (by simp <;> omega) _)) (hb1.mono (by simp <;> omega))
  have c_a_0 : w1.cell? ⟨w.heap.size, 0, none⟩ = some (.int .i64 s) := (hb1.cell (by simp <;> omega)).trans (by go_simp)
  have c_a_1 : w1.cell? ⟨w.heap.size, 1, none⟩ = some (.int .i64 a) := (hb1.cell (by simp <;> omega)).trans (by go_simp)
  have c_a_2 : w1.cell? ⟨w.heap.size, 2, none⟩ = some (.int .i64 o) := (hb1.cell (by simp <;> omega)).trans (by go_simp)
  have c_b_0 : w1.cell? ⟨w.heap.size + 1, 0, none⟩ = some (.int .i64 t) := (hb1.cell (by simp <;> omega)).trans (by go_simp)
  have c_b_1 : w1.cell? ⟨w.heap.size + 1, 1, none⟩ = some (.int .i64 b) := (hb1.cell (by simp <;> omega)).trans (by go_simp)
  have c_b_2 : w1.cell? ⟨w.heap.size + 1, 2, none⟩ = some (.int .i64 p) := (hb1.cell (by simp <;> omega)).trans (by go_simp)
  have c_r_0 : w1.cell? ⟨w.heap.size + 1 + 1, 0, none⟩ = some (.int .i64 0) := (hb1.cell (by simp <;> omega)).trans (by go_simp)
  have f_r_0 : w1.frozen? ⟨w.heap.size + 1 + 1, 0, none⟩ = false := (hb1.frozen (by simp <;> omega)).trans (by go_simp)
  have c_r_1 : w1.cell? ⟨w.heap.size + 1 + 1, 1, none⟩ = some (.int .i64 0) := (hb1.cell (by simp <;> omega)).trans (by go_simp)
  have f_r_1 : w1.frozen? ⟨w.heap.size + 1 + 1, 1, none⟩ = false := (hb1.frozen (by simp <;> omega)).trans (by go_simp)
  have z_a := World.block_lt_of_cell? _ _ c_a_0
  have z_b := World.block_lt_of_cell? _ _ c_b_0
  have z_r := World.block_lt_of_cell? _ _ c_r_0
  have hB1 := below_two hB0 hs1
  clear hB0 hs1 hb1
  rw [HP.out]
  simp only [onlyR, errP, if_false, Bool.false_eq_true]
  go_wp2_with fail
  refine (refLine_any _ _ _ _).mono ?_
  rintro e w2 ⟨rfl, hb2⟩
  have hs2 := hb2
  clear c_a_0
  clear c_a_1
  clear c_a_2
  clear c_b_0
  clear c_b_1
  clear c_b_2
  replace f_r_0 := frozen_later hs2 c_r_0 f_r_0
  replace c_r_0 := cell_later hs2 c_r_0
  replace f_r_1 := frozen_later hs2 c_r_1 f_r_1
  replace c_r_1 := cell_later hs2 c_r_1
  clear z_r
  have z_r := World.block_lt_of_cell? _ _ c_r_0
  clear z_a
  clear z_b
  have hB2 := below_two hB1 hs2
  clear hB1 hs2
  rw [HQ.out, HY.out]
  simp only [onlyR, errP, if_true]
  obtain ⟨m0, m1⟩ := put2_of (x := .int .i64 0) (y := .int .i64 0) c_r_0 c_r_1
  go_wp2
  exact bodyPost_ret (v := .tuple #[.agg #[.int .i64 0, .int .i64 0], .int .i64 20]) (by simp [results, Tryd.results123, go_sem, m0, m1]) rfl ⟨rfl, put2_below hB2 (by omega)⟩

set_option maxRecDepth 100000 in
set_option maxHeartbeats 4000000 in
theorem refBetween_no2 (s a o t b p : Int) (w : World) (HP : Hid (Pit.right s a o = true)) (HQ : Hid (Pit.right t b p = false)) (x : Int) (HX : Hid (Pit.lin s o = x)) :
    Calls Tryd.prog 123 #[pt s a o, pt t b p] w fun e w' => e = .returned (.tuple #[iv 0 0, .int .i64 20]) ∧ Below w.heap.size w w' := by
  have hB0 : Below w.heap.size w w := Below.refl _ _
  go_enter Tryd.func123, Tryd.ntmps123
  go_wp2_with fail
  refine (refLine_any _ _ _ _).mono ?_
  rintro e w1 ⟨rfl, hb1⟩
  have hs1 : Below w.heap.size w w1 := Below.trans (by repeat (first | exact Below.refl _ _ | refine Below.alloc ?_ (by simp <;> omega) _)) (hb1.mono (by simp <;> omega))
  have c_a_0 : w1.cell? ⟨w.heap.size, 0, none⟩ = some (.int .i64 s) := (hb1.cell (by simp <;> omega)).trans (by go_simp)
  have c_a_1 : w1.cell? ⟨w.heap.size, 1, none⟩ = some (.int .i64 a) := (hb1.cell (by simp <;> omega)).trans (by go_simp)
  have c_a_2 : w1.cell? ⟨w.heap.size, 2, none⟩ = some (.int .i64 o) := (hb1.cell (by simp <;> omega)).trans (by go_simp)
  have c_b_0 : w1.cell? ⟨w.heap.size + 1, 0, none⟩ = some (.int .i64 t) := (hb1.cell (by simp <;> omega)).trans (by go_simp)
  have c_b_1 : w1.cell? ⟨w.heap.size + 1, 1, none⟩ = some (.int .i64 b) := (hb1.cell (by simp <;> omega)).trans (by go_simp)
  have c_b_2 : w1.cell? ⟨w.heap.size + 1, 2, none⟩ = some (.int .i64 p) := (hb1.cell (by simp <;> omega)).trans (by go_simp)
  have c_r_0 : w1.cell? ⟨w.heap.size + 1 + 1, 0, none⟩ = some (.int .i64 0) := (hb1.cell (by simp <;> omega)).trans (by go_simp)
  have f_r_0 : w1.frozen? ⟨w.heap.size + 1 + 1, 0, none⟩ = false := (hb1.frozen (by simp <;> omega)).trans (by go_simp)
  have c_r_1 : w1.cell? ⟨w.heap.size + 1 + 1, 1, none⟩ = some (.int .i64 0) := (hb1.cell (by simp <;> omega)).trans (by go_simp)
  have f_r_1 : w1.frozen? ⟨w.heap.size + 1 + 1, 1, none⟩ = false := (hb1.frozen (by simp <;> omega)).trans (by go_simp)
  have z_a := World.block_lt_of_cell? _ _ c_a_0
  have z_b := World.block_lt_of_cell? _ _ c_b_0
  have z_r := World.block_lt_of_cell? _ _ c_r_0
  have hB1 := below_two hB0 hs1
  clear hB0 hs1 hb1
  rw [HP.out, HX.out]
  simp only [onlyR, errP, if_true]
  go_wp2_with fail
  refine (refLine_any _ _ _ _).mono ?_
  rintro e w2 ⟨rfl, hb2⟩
  have hs2 := hb2
  clear c_a_0
  clear c_a_1
  clear c_a_2
  clear c_b_0
  clear c_b_1
  clear c_b_2
  replace f_r_0 := frozen_later hs2 c_r_0 f_r_0
  replace c_r_0 := cell_later hs2 c_r_0
  replace f_r_1 := frozen_later hs2 c_r_1 f_r_1
  replace c_r_1 := cell_later hs2 c_r_1
  clear z_r
  have z_r := World.block_lt_of_cell? _ _ c_r_0
  clear z_a
  clear z_b
  have hB2 := below_two hB1 hs2
  clear hB1 hs2
  rw [HQ.out]
  simp only [onlyR, errP, if_false, Bool.false_eq_true]
  obtain ⟨m0, m1⟩ := put2_of (x := .int .i64 0) (y := .int .i64 0) c_r_0 c_r_1
  go_wp2
  exact bodyPost_ret (v := .tuple #[.agg #[.int .i64 0, .int .i64 0], .int .i64 20]) (by simp [results, Tryd.results123, go_sem, m0, m1]) rfl ⟨rfl, put2_below hB2 (by omega)⟩

set_option maxRecDepth 100000 in
set_option maxHeartbeats 4000000 in
theorem refBetween_yes (s a o t b p : Int) (w : World) (x y m n : Int) (HP : Hid (Pit.right s a o = true)) (HQ : Hid (Pit.right t b p = true)) (HX : Hid (Pit.lin s o = x)) (HY : Hid (Pit.lin t p = y)) (HM : Hid (Pit.num s a o = m)) (HN : Hid (Pit.num t b p = n)) (x0 : -7 ≤ x) (x1 : x ≤ 69) (y0 : -7 ≤ y) (y1 : y ≤ 69) (m0' : 0 ≤ m) (m1' : m ≤ 127) (n0 : 0 ≤ n) (n1 : n ≤ 127) :
    Calls Tryd.prog 123 #[pt s a o, pt t b p] w fun e w' => e = .returned (.tuple #[iv (y - x) (n - m), .int .i64 0]) ∧ Below w.heap.size w w' := by
  have hB0 : Below w.heap.size w w := Below.refl _ _
  go_enter Tryd.func123, Tryd.ntmps123
  go_wp2_with fail
  refine (refLine_any _ _ _ _).mono ?_
  rintro e w1 ⟨rfl, hb1⟩
  have hs1 : Below w.heap.size w w1 := Below.trans (by repeat (first | exact Below.refl _ _ | refine Below.alloc ?_ (by simp <;> omega) _)) (hb1.mono (by simp <;> omega))
  have c_a_0 : w1.cell? ⟨w.heap.size, 0, none⟩ = some (.int .i64 s) := (hb1.cell (by simp <;> omega)).trans (by go_simp)
  have c_a_1 : w1.cell? ⟨w.heap.size, 1, none⟩ = some (.int .i64 a) := (hb1.cell (by simp <;> omega)).trans (by go_simp)
  have c_a_2 : w1.cell? ⟨w.heap.size, 2, none⟩ = some (.int .i64 o) := (hb1.cell (by simp <;> omega)).trans (by go_simp)
  have c_b_0 : w1.cell? ⟨w.heap.size + 1, 0, none⟩ = some (.int .i64 t) := (hb1.cell (by simp <;> omega)).trans (by go_simp)
  have c_b_1 : w1.cell? ⟨w.heap.size + 1, 1, none⟩ = some (.int .i64 b) := (hb1.cell (by simp <;> omega)).trans (by go_simp)
  have c_b_2 : w1.cell? ⟨w.heap.size + 1, 2, none⟩ = some (.int .i64 p) := (hb1.cell (by simp <;> omega)).trans (by go_simp)
  have c_r_0 : w1.cell? ⟨w.heap.size + 1 + 1, 0, none⟩ = some (.int .i64 0) := (hb1.cell (by simp <;> omega)).trans (by go_simp)
  have f_r_0 : w1.frozen? ⟨w.heap.size + 1 + 1, 0, none⟩ = false := (hb1.frozen (by simp <;> omega)).trans (by go_simp)
  have c_r_1 : w1.cell? ⟨w.heap.size + 1 + 1, 1, none⟩ = some (.int .i64 0) := (hb1.cell (by simp <;> omega)).trans (by go_simp)
  have f_r_1 : w1.frozen? ⟨w.heap.size + 1 + 1, 1, none⟩ = false := (hb1.frozen (by simp <;> omega)).trans (by go_simp)
  have z_a := World.block_lt_of_cell? _ _ c_a_0
  have z_b := World.block_lt_of_cell? _ _ c_b_0
  have z_r := World.block_lt_of_cell? _ _ c_r_0
  have hB1 := below_two hB0 hs1
  clear hB0 hs1 hb1
  rw [HP.out, HX.out]
  simp only [onlyR, errP, if_true]
  go_wp2_with fail
  refine (refLine_any _ _ _ _).mono ?_
  rintro e w2 ⟨rfl, hb2⟩
  have hs2 := hb2
  replace c_a_0 := cell_later hs2 c_a_0
  replace c_a_1 := cell_later hs2 c_a_1
  replace c_a_2 := cell_later hs2 c_a_2
  replace c_b_0 := cell_later hs2 c_b_0
  replace c_b_1 := cell_later hs2 c_b_1
  replace c_b_2 := cell_later hs2 c_b_2
  replace f_r_0 := frozen_later hs2 c_r_0 f_r_0
  replace c_r_0 := cell_later hs2 c_r_0
  replace f_r_1 := frozen_later hs2 c_r_1 f_r_1
  replace c_r_1 := cell_later hs2 c_r_1
  clear z_a
  have z_a := World.block_lt_of_cell? _ _ c_a_0
  clear z_b
  have z_b := World.block_lt_of_cell? _ _ c_b_0
  clear z_r
  have z_r := World.block_lt_of_cell? _ _ c_r_0
  have hB2 := below_two hB1 hs2
  clear hB1 hs2
  rw [HQ.out, HY.out]
  simp only [onlyR, errP, if_true]
  go_wp2_with fail
  refine (refNumber_any _ _ _ _).mono ?_
  rintro e w3 ⟨rfl, hb3⟩
  have hs3 := hb3
  replace c_a_0 := cell_later hs3 c_a_0
  replace c_a_1 := cell_later hs3 c_a_1
  replace c_a_2 := cell_later hs3 c_a_2
  replace c_b_0 := cell_later hs3 c_b_0
  replace c_b_1 := cell_later hs3 c_b_1
  replace c_b_2 := cell_later hs3 c_b_2
  replace f_r_0 := frozen_later hs3 c_r_0 f_r_0
  replace c_r_0 := cell_later hs3 c_r_0
  replace f_r_1 := frozen_later hs3 c_r_1 f_r_1
  replace c_r_1 := cell_later hs3 c_r_1
  clear z_a
  have z_a := World.block_lt_of_cell? _ _ c_a_0
  clear z_b
  have z_b := World.block_lt_of_cell? _ _ c_b_0
  clear z_r
  have z_r := World.block_lt_of_cell? _ _ c_r_0
  have hB3 := below_two hB2 hs3
  clear hB2 hs3
  rw [HP.out, HM.out]
  simp only [onlyR, errP, if_true]
  go_wp2_with fail
  refine (refNumber_any _ _ _ _).mono ?_
  rintro e w4 ⟨rfl, hb4⟩
  have hs4 := hb4
  clear c_a_0
  clear c_a_1
  clear c_a_2
  clear c_b_0
  clear c_b_1
  clear c_b_2
  replace f_r_0 := frozen_later hs4 c_r_0 f_r_0
  replace c_r_0 := cell_later hs4 c_r_0
  replace f_r_1 := frozen_later hs4 c_r_1 f_r_1
  replace c_r_1 := cell_later hs4 c_r_1
  clear z_r
  have z_r := World.block_lt_of_cell? _ _ c_r_0
  clear z_a
  clear z_b
  have hB4 := below_two hB3 hs4
  clear hB3 hs4
  rw [HQ.out, HN.out]
  simp only [onlyR, errP, if_true]
  obtain ⟨m0, m1⟩ := put2_of (x := .int .i64 (y - x)) (y := .int .i64 (n - m)) c_r_0 c_r_1
  go_wp2
  exact bodyPost_ret (v := .tuple #[.agg #[.int .i64 (y - x), .int .i64 (n - m)], .int .i64 0]) (by simp [results, Tryd.results123, go_sem, m0, m1]) rfl ⟨rfl, put2_below hB4 (by omega)⟩

theorem refBetween_any (s a o t b p : Int) (w : World) :
    Calls Tryd.prog 123 #[pt s a o, pt t b p] w fun e w' => e = .returned (.tuple #[iv (btS (Pit.right s a o && Pit.right t b p) s o t p) (btH (Pit.right s a o && Pit.right t b p) s a o t b p), .int .i64 (errP (Pit.right s a o && Pit.right t b p))]) ∧ Below w.heap.size w w' := by
  cases h1 : Pit.right s a o
  · cases h2 : Pit.right t b p
    · exact refBetween_no1 s a o t b p w (Lib.hid h1) (Lib.hid h2)
    · exact refBetween_no1b s a o t b p w (Lib.hid h1) (Lib.hid h2) _ (Lib.hid rfl)
  · have r1 := (Pit.right_iff _ _ _).1 h1
    cases h2 : Pit.right t b p
    · exact refBetween_no2 s a o t b p w (Lib.hid h1) (Lib.hid h2) _ (Lib.hid rfl)
    · have r2 := (Pit.right_iff _ _ _).1 h2
      have l1 := lin_bounds r1
      have l2 := lin_bounds r2
      exact refBetween_yes s a o t b p w _ _ _ _ (Lib.hid h1) (Lib.hid h2) (Lib.hid rfl) (Lib.hid rfl) (Lib.hid rfl) (Lib.hid rfl) l1.1 l1.2 l2.1 l2.2 r1.n0 r1.nM r2.n0 r2.nM

set_option maxRecDepth 100000 in
set_option maxHeartbeats 4000000 in
theorem refCompare_no (s a o t b p : Int) (w : World) (HX : Hid (btS (Pit.right s a o && Pit.right t b p) s o t p = 0)) (HY : Hid (btH (Pit.right s a o && Pit.right t b p) s a o t b p = 0)) (HE : Hid (errP (Pit.right s a o && Pit.right t b p) = 20)) :
    Calls Tryd.prog 84 #[pt s a o, pt t b p] w fun e w' => e = .returned (.int .i64 0) ∧ Below w.heap.size w w' := by
  have hB0 : Below w.heap.size w w := Below.refl _ _
  go_enter Tryd.func84, Tryd.ntmps84
  go_wp2_with fail
  refine (refBetween_any _ _ _ _ _ _ _).mono ?_
  rintro e w1 ⟨rfl, hb1⟩
  have hs1 : Below w.heap.size w w1 := Below.trans (by repeat (first | exact Below.refl _ _ | refine Below.alloc ?_ (by simp <;> omega) _)) (hb1.mono (by simp <;> omega))
  have hB1 := below_two hB0 hs1
  clear hB0 hs1 hb1
  rw [HX.out, HY.out, HE.out]
  go_wp2
  go_ret
  exact ⟨rfl, (hB1.alloc hB1.size (.cells #[.int .i64 0, .int .i64 0] 30))⟩

set_option maxRecDepth 100000 in
set_option maxHeartbeats 4000000 in
theorem refCompare_1 (s a o t b p : Int) (w : World) (x y : Int) (hy : 0 < y) (HX : Hid (btS (Pit.right s a o && Pit.right t b p) s o t p = x)) (HY : Hid (btH (Pit.right s a o && Pit.right t b p) s a o t b p = y)) (HE : Hid (errP (Pit.right s a o && Pit.right t b p) = 0)) :
    Calls Tryd.prog 84 #[pt s a o, pt t b p] w fun e w' => e = .returned (.int .i64 (-1)) ∧ Below w.heap.size w w' := by
  have hB0 : Below w.heap.size w w := Below.refl _ _
  go_enter Tryd.func84, Tryd.ntmps84
  go_wp2_with fail
  refine (refBetween_any _ _ _ _ _ _ _).mono ?_
  rintro e w1 ⟨rfl, hb1⟩
  have hs1 : Below w.heap.size w w1 := Below.trans (by repeat (first | exact Below.refl _ _ | refine Below.alloc ?_ (by simp <;> omega) _)) (hb1.mono (by simp <;> omega))
  have hB1 := below_two hB0 hs1
  clear hB0 hs1 hb1
  rw [HX.out, HY.out, HE.out]
  go_wp2
  go_ret
  exact ⟨rfl, (hB1.alloc hB1.size (.cells #[.int .i64 x, .int .i64 y] 30))⟩

set_option maxRecDepth 100000 in
set_option maxHeartbeats 4000000 in
theorem refCompare_2 (s a o t b p : Int) (w : World) (x : Int) (hx : 0 < x) (HX : Hid (btS (Pit.right s a o && Pit.right t b p) s o t p = x)) (HY : Hid (btH (Pit.right s a o && Pit.right t b p) s a o t b p = 0)) (HE : Hid (errP (Pit.right s a o && Pit.right t b p) = 0)) :
    Calls Tryd.prog 84 #[pt s a o, pt t b p] w fun e w' => e = .returned (.int .i64 (-1)) ∧ Below w.heap.size w w' := by
  have hB0 : Below w.heap.size w w := Below.refl _ _
  go_enter Tryd.func84, Tryd.ntmps84
  go_wp2_with fail
  refine (refBetween_any _ _ _ _ _ _ _).mono ?_
  rintro e w1 ⟨rfl, hb1⟩
  have hs1 : Below w.heap.size w w1 := Below.trans (by repeat (first | exact Below.refl _ _ | refine Below.alloc ?_ (by simp <;> omega) _)) (hb1.mono (by simp <;> omega))
  have hB1 := below_two hB0 hs1
  clear hB0 hs1 hb1
  rw [HX.out, HY.out, HE.out]
  go_wp2
  go_ret
  exact ⟨rfl, (hB1.alloc hB1.size (.cells #[.int .i64 x, .int .i64 0] 30))⟩

set_option maxRecDepth 100000 in
set_option maxHeartbeats 4000000 in
theorem refCompare_3 (s a o t b p : Int) (w : World) (x y : Int) (hy : y < 0) (HX : Hid (btS (Pit.right s a o && Pit.right t b p) s o t p = x)) (HY : Hid (btH (Pit.right s a o && Pit.right t b p) s a o t b p = y)) (HE : Hid (errP (Pit.right s a o && Pit.right t b p) = 0)) :
    Calls Tryd.prog 84 #[pt s a o, pt t b p] w fun e w' => e = .returned (.int .i64 1) ∧ Below w.heap.size w w' := by
  have hB0 : Below w.heap.size w w := Below.refl _ _
  go_enter Tryd.func84, Tryd.ntmps84
  go_wp2_with fail
  refine (refBetween_any _ _ _ _ _ _ _).mono ?_
  rintro e w1 ⟨rfl, hb1⟩
  have hs1 : Below w.heap.size w w1 := Below.trans (by repeat (first | exact Below.refl _ _ | refine Below.alloc ?_ (by simp <;> omega) _)) (hb1.mono (by simp <;> omega))
  have hB1 := below_two hB0 hs1
  clear hB0 hs1 hb1
  rw [HX.out, HY.out, HE.out]
  go_wp2
  go_ret
  exact ⟨rfl, (hB1.alloc hB1.size (.cells #[.int .i64 x, .int .i64 y] 30))⟩

set_option maxRecDepth 100000 in
set_option maxHeartbeats 4000000 in
theorem refCompare_4 (s a o t b p : Int) (w : World) (x : Int) (hx : x < 0) (HX : Hid (btS (Pit.right s a o && Pit.right t b p) s o t p = x)) (HY : Hid (btH (Pit.right s a o && Pit.right t b p) s a o t b p = 0)) (HE : Hid (errP (Pit.right s a o && Pit.right t b p) = 0)) :
    Calls Tryd.prog 84 #[pt s a o, pt t b p] w fun e w' => e = .returned (.int .i64 1) ∧ Below w.heap.size w w' := by
  have hB0 : Below w.heap.size w w := Below.refl _ _
  go_enter Tryd.func84, Tryd.ntmps84
  go_wp2_with fail
  refine (refBetween_any _ _ _ _ _ _ _).mono ?_
  rintro e w1 ⟨rfl, hb1⟩
  have hs1 : Below w.heap.size w w1 := Below.trans (by repeat (first | exact Below.refl _ _ | refine Below.alloc ?_ (by simp <;> omega) _)) (hb1.mono (by simp <;> omega))
  have hB1 := below_two hB0 hs1
  clear hB0 hs1 hb1
  rw [HX.out, HY.out, HE.out]
  go_wp2
  go_ret
  exact ⟨rfl, (hB1.alloc hB1.size (.cells #[.int .i64 x, .int .i64 0] 30))⟩

set_option maxRecDepth 100000 in
set_option maxHeartbeats 4000000 in
theorem refCompare_5 (s a o t b p : Int) (w : World) (HX : Hid (btS (Pit.right s a o && Pit.right t b p) s o t p = 0)) (HY : Hid (btH (Pit.right s a o && Pit.right t b p) s a o t b p = 0)) (HE : Hid (errP (Pit.right s a o && Pit.right t b p) = 0)) :
    Calls Tryd.prog 84 #[pt s a o, pt t b p] w fun e w' => e = .returned (.int .i64 0) ∧ Below w.heap.size w w' := by
  have hB0 : Below w.heap.size w w := Below.refl _ _
  go_enter Tryd.func84, Tryd.ntmps84
  go_wp2_with fail
  refine (refBetween_any _ _ _ _ _ _ _).mono ?_
  rintro e w1 ⟨rfl, hb1⟩
  have hs1 : Below w.heap.size w w1 := Below.trans (by repeat (first | exact Below.refl _ _ | refine Below.alloc ?_ (by simp <;> omega) _)) (hb1.mono (by simp <;> omega))
  have hB1 := below_two hB0 hs1
  clear hB0 hs1 hb1
  rw [HX.out, HY.out, HE.out]
  go_wp2
  go_ret
  exact ⟨rfl, (hB1.alloc hB1.size (.cells #[.int .i64 0, .int .i64 0] 30))⟩

theorem refCompare_any (s a o t b p : Int) (w : World) :
    Calls Tryd.prog 84 #[pt s a o, pt t b p] w fun e w' => e = .returned (.int .i64 (Pit.cmpP (Pit.right s a o && Pit.right t b p) s a o t b p)) ∧ Below w.heap.size w w' := by
  cases hr : (Pit.right s a o && Pit.right t b p)
  · exact refCompare_no s a o t b p w (Lib.hid (by rw [hr]; rfl)) (Lib.hid (by rw [hr]; rfl)) (Lib.hid (by rw [hr]; rfl))
  · have eX : btS (Pit.right s a o && Pit.right t b p) s o t p = Pit.lin t p - Pit.lin s o := by rw [hr]; rfl
    have eY : btH (Pit.right s a o && Pit.right t b p) s a o t b p = Pit.num t b p - Pit.num s a o := by rw [hr]; rfl
    have eE : errP (Pit.right s a o && Pit.right t b p) = 0 := by rw [hr]; rfl
    show Calls _ _ _ _ fun e w' => e = .returned (.int .i64 (Pit.cmp2 (Pit.num s a o) (Pit.num t b p) (Pit.lin s o) (Pit.lin t p))) ∧ Below w.heap.size w w'
    rcases Pit.cmp2_cases (Pit.num s a o) (Pit.num t b p) (Pit.lin s o) (Pit.lin t p) with ⟨h, e⟩ | ⟨h, h', e⟩ | ⟨h, e⟩
    · rw [e]
      rcases h with h | ⟨h, h'⟩
      · exact refCompare_1 s a o t b p w _ _ (by omega) (Lib.hid eX) (Lib.hid eY) (Lib.hid eE)
      · exact refCompare_2 s a o t b p w (Pit.lin t p - Pit.lin s o) (by omega) (Lib.hid eX) (Lib.hid (by rw [eY]; omega)) (Lib.hid eE)
    · rw [e]
      exact refCompare_5 s a o t b p w (Lib.hid (by rw [eX]; omega)) (Lib.hid (by rw [eY]; omega)) (Lib.hid eE)
    · rw [e]
      rcases h with h | ⟨h, h'⟩
      · exact refCompare_3 s a o t b p w _ _ (by omega) (Lib.hid eX) (Lib.hid eY) (Lib.hid eE)
      · exact refCompare_4 s a o t b p w (Pit.lin t p - Pit.lin s o) (by omega) (Lib.hid eX) (Lib.hid (by rw [eY]; omega)) (Lib.hid eE)

/-- What the loop of the reference's Up keeps. -/
structure UpW (w : World) (S H : Int) (wr : World) : Prop where
  b0 : wr.cell? ⟨w.heap.size + 1, 0, none⟩ = some (.int .i64 S)
  b1 : wr.cell? ⟨w.heap.size + 1, 1, none⟩ = some (.int .i64 H)
  r0 : wr.cell? ⟨w.heap.size + 1 + 1, 0, none⟩ = some (.int .i64 0)
  r1 : wr.cell? ⟨w.heap.size + 1 + 1, 1, none⟩ = some (.int .i64 0)
  r2 : wr.cell? ⟨w.heap.size + 1 + 1, 2, none⟩ = some (.int .i64 0)
  f0 : wr.frozen? ⟨w.heap.size + 1 + 1, 0, none⟩ = false
  f1 : wr.frozen? ⟨w.heap.size + 1 + 1, 1, none⟩ = false
  f2 : wr.frozen? ⟨w.heap.size + 1 + 1, 2, none⟩ = false
  below : Below w.heap.size w wr

theorem UpW.later {w : World} {S H : Int} {wr wx : World} (h : UpW w S H wr) (hb : Below wr.heap.size wr wx) : UpW w S H wx :=
  ⟨cell_later hb h.b0, cell_later hb h.b1, cell_later hb h.r0, cell_later hb h.r1, cell_later hb h.r2, frozen_later hb h.r0 h.f0, frozen_later hb h.r1 h.f1, frozen_later hb h.r2 h.f2, below_two h.below hb⟩

def UpRel (w : World) (S H hi : Int) (i : Value) (wr : World) : Prop := ∃ al : Int, i = .int .i64 al ∧ -2 ≤ al ∧ al ≤ hi ∧ UpW w S H wr

set_option maxRecDepth 100000 in
set_option maxHeartbeats 4000000 in
theorem refUp_no1 (s a o S H : Int) (w : World) (h : Pit.right s a o = false) :
    Calls Tryd.prog 44 #[pt s a o, iv S H] w fun e w' => e = .returned (pv 0 0 0 20) ∧ Below w.heap.size w w' := by
  have hB0 : Below w.heap.size w w := Below.refl _ _
  go_enter Tryd.func44, Tryd.ntmps44
  go_wp2_with fail
  refine (refLine_any _ _ _ _).mono ?_
  rintro e w1 ⟨rfl, hb1⟩
  have hs1 : Below w.heap.size w w1 := Below.trans (by repeat (first | exact Below.refl _ _ | refine Below.alloc ?_ (by simp <;> omega) _)) (hb1.mono (by simp <;> omega))
  have c_p_0 : w1.cell? ⟨w.heap.size, 0, none⟩ = some (.int .i64 s) := (hb1.cell (by simp <;> omega)).trans (by go_simp)
  have c_p_1 : w1.cell? ⟨w.heap.size, 1, none⟩ = some (.int .i64 a) := (hb1.cell (by simp <;> omega)).trans (by go_simp)
  have c_p_2 : w1.cell? ⟨w.heap.size, 2, none⟩ = some (.int .i64 o) := (hb1.cell (by simp <;> omega)).trans (by go_simp)
  have c_by_0 : w1.cell? ⟨w.heap.size + 1, 0, none⟩ = some (.int .i64 S) := (hb1.cell (by simp <;> omega)).trans (by go_simp)
  have c_by_1 : w1.cell? ⟨w.heap.size + 1, 1, none⟩ = some (.int .i64 H) := (hb1.cell (by simp <;> omega)).trans (by go_simp)
  have c_r_0 : w1.cell? ⟨w.heap.size + 1 + 1, 0, none⟩ = some (.int .i64 0) := (hb1.cell (by simp <;> omega)).trans (by go_simp)
  have f_r_0 : w1.frozen? ⟨w.heap.size + 1 + 1, 0, none⟩ = false := (hb1.frozen (by simp <;> omega)).trans (by go_simp)
  have c_r_1 : w1.cell? ⟨w.heap.size + 1 + 1, 1, none⟩ = some (.int .i64 0) := (hb1.cell (by simp <;> omega)).trans (by go_simp)
  have f_r_1 : w1.frozen? ⟨w.heap.size + 1 + 1, 1, none⟩ = false := (hb1.frozen (by simp <;> omega)).trans (by go_simp)
  have c_r_2 : w1.cell? ⟨w.heap.size + 1 + 1, 2, none⟩ = some (.int .i64 0) := (hb1.cell (by simp <;> omega)).trans (by go_simp)
  have f_r_2 : w1.frozen? ⟨w.heap.size + 1 + 1, 2, none⟩ = false := (hb1.frozen (by simp <;> omega)).trans (by go_simp)
  have z_by := World.block_lt_of_cell? _ _ c_by_0
  have z_p := World.block_lt_of_cell? _ _ c_p_0
  have z_r := World.block_lt_of_cell? _ _ c_r_0
  have hB1 := below_two hB0 hs1
  clear hB0 hs1 hb1
  rw [h]
  simp only [onlyR, errP, if_false, Bool.false_eq_true]
  go_wp2_with fail
  refine (refNumber_any _ _ _ _).mono ?_
  rintro e w2 ⟨rfl, hb2⟩
  have hs2 := hb2
  clear c_p_0
  clear c_p_1
  clear c_p_2
  replace c_by_0 := cell_later hs2 c_by_0
  replace c_by_1 := cell_later hs2 c_by_1
  replace f_r_0 := frozen_later hs2 c_r_0 f_r_0
  replace c_r_0 := cell_later hs2 c_r_0
  replace f_r_1 := frozen_later hs2 c_r_1 f_r_1
  replace c_r_1 := cell_later hs2 c_r_1
  replace f_r_2 := frozen_later hs2 c_r_2 f_r_2
  replace c_r_2 := cell_later hs2 c_r_2
  clear z_by
  have z_by := World.block_lt_of_cell? _ _ c_by_0
  clear z_r
  have z_r := World.block_lt_of_cell? _ _ c_r_0
  clear z_p
  have hB2 := below_two hB1 hs2
  clear hB1 hs2
  rw [h]
  simp only [onlyR, errP, if_false, Bool.false_eq_true]
  obtain ⟨m0, m1, m2⟩ := put3_of (x := .int .i64 0) (y := .int .i64 0) (z := .int .i64 0) c_r_0 c_r_1 c_r_2
  go_wp2
  exact bodyPost_ret (v := .tuple #[.agg #[.int .i64 0, .int .i64 0, .int .i64 0], .int .i64 20]) (by simp [results, Tryd.results44, go_sem, m0, m1, m2]) rfl ⟨rfl, put3_below hB2 (by omega)⟩

set_option maxRecDepth 100000 in
set_option maxHeartbeats 4000000 in
theorem refUp_s0 (s a o S H : Int) (w : World) (h : Pit.right s a o = true) (L N : Int) (HL : Hid (Pit.lin s o = L)) (HN : Hid (Pit.num s a o = N)) (s0 : S < -100) :
    Calls Tryd.prog 44 #[pt s a o, iv S H] w fun e w' => e = .returned (pv 0 0 0 20) ∧ Below w.heap.size w w' := by
  have hB0 : Below w.heap.size w w := Below.refl _ _
  go_enter Tryd.func44, Tryd.ntmps44
  go_wp2_with fail
  refine (refLine_any _ _ _ _).mono ?_
  rintro e w1 ⟨rfl, hb1⟩
  have hs1 : Below w.heap.size w w1 := Below.trans (by repeat (first | exact Below.refl _ _ | refine Below.alloc ?_ (by simp <;> omega) _)) (hb1.mono (by simp <;> omega))
  have c_p_0 : w1.cell? ⟨w.heap.size, 0, none⟩ = some (.int .i64 s) := (hb1.cell (by simp <;> omega)).trans (by go_simp)
  have c_p_1 : w1.cell? ⟨w.heap.size, 1, none⟩ = some (.int .i64 a) := (hb1.cell (by simp <;> omega)).trans (by go_simp)
  have c_p_2 : w1.cell? ⟨w.heap.size, 2, none⟩ = some (.int .i64 o) := (hb1.cell (by simp <;> omega)).trans (by go_simp)
  have c_by_0 : w1.cell? ⟨w.heap.size + 1, 0, none⟩ = some (.int .i64 S) := (hb1.cell (by simp <;> omega)).trans (by go_simp)
  have c_by_1 : w1.cell? ⟨w.heap.size + 1, 1, none⟩ = some (.int .i64 H) := (hb1.cell (by simp <;> omega)).trans (by go_simp)
  have c_r_0 : w1.cell? ⟨w.heap.size + 1 + 1, 0, none⟩ = some (.int .i64 0) := (hb1.cell (by simp <;> omega)).trans (by go_simp)
  have f_r_0 : w1.frozen? ⟨w.heap.size + 1 + 1, 0, none⟩ = false := (hb1.frozen (by simp <;> omega)).trans (by go_simp)
  have c_r_1 : w1.cell? ⟨w.heap.size + 1 + 1, 1, none⟩ = some (.int .i64 0) := (hb1.cell (by simp <;> omega)).trans (by go_simp)
  have f_r_1 : w1.frozen? ⟨w.heap.size + 1 + 1, 1, none⟩ = false := (hb1.frozen (by simp <;> omega)).trans (by go_simp)
  have c_r_2 : w1.cell? ⟨w.heap.size + 1 + 1, 2, none⟩ = some (.int .i64 0) := (hb1.cell (by simp <;> omega)).trans (by go_simp)
  have f_r_2 : w1.frozen? ⟨w.heap.size + 1 + 1, 2, none⟩ = false := (hb1.frozen (by simp <;> omega)).trans (by go_simp)
  have z_by := World.block_lt_of_cell? _ _ c_by_0
  have z_p := World.block_lt_of_cell? _ _ c_p_0
  have z_r := World.block_lt_of_cell? _ _ c_r_0
  have hB1 := below_two hB0 hs1
  clear hB0 hs1 hb1
  rw [h, HL.out]
  simp only [onlyR, errP, if_true]
  go_wp2_with fail
  refine (refNumber_any _ _ _ _).mono ?_
  rintro e w2 ⟨rfl, hb2⟩
  have hs2 := hb2
  clear c_p_0
  clear c_p_1
  clear c_p_2
  replace c_by_0 := cell_later hs2 c_by_0
  replace c_by_1 := cell_later hs2 c_by_1
  replace f_r_0 := frozen_later hs2 c_r_0 f_r_0
  replace c_r_0 := cell_later hs2 c_r_0
  replace f_r_1 := frozen_later hs2 c_r_1 f_r_1
  replace c_r_1 := cell_later hs2 c_r_1
  replace f_r_2 := frozen_later hs2 c_r_2 f_r_2
  replace c_r_2 := cell_later hs2 c_r_2
  clear z_by
  have z_by := World.block_lt_of_cell? _ _ c_by_0
  clear z_r
  have z_r := World.block_lt_of_cell? _ _ c_r_0
  clear z_p
  have hB2 := below_two hB1 hs2
  clear hB1 hs2
  rw [h, HN.out]
  simp only [onlyR, errP, if_true]
  obtain ⟨m0, m1, m2⟩ := put3_of (x := .int .i64 0) (y := .int .i64 0) (z := .int .i64 0) c_r_0 c_r_1 c_r_2
  go_wp2
  exact bodyPost_ret (v := .tuple #[.agg #[.int .i64 0, .int .i64 0, .int .i64 0], .int .i64 20]) (by simp [results, Tryd.results44, go_sem, m0, m1, m2]) rfl ⟨rfl, put3_below hB2 (by omega)⟩

set_option maxRecDepth 100000 in
set_option maxHeartbeats 4000000 in
theorem refUp_s1 (s a o S H : Int) (w : World) (h : Pit.right s a o = true) (L N : Int) (HL : Hid (Pit.lin s o = L)) (HN : Hid (Pit.num s a o = N)) (s0 : ¬ S < -100) (s1 : 100 < S) :
    Calls Tryd.prog 44 #[pt s a o, iv S H] w fun e w' => e = .returned (pv 0 0 0 20) ∧ Below w.heap.size w w' := by
  have hB0 : Below w.heap.size w w := Below.refl _ _
  go_enter Tryd.func44, Tryd.ntmps44
  go_wp2_with fail
  refine (refLine_any _ _ _ _).mono ?_
  rintro e w1 ⟨rfl, hb1⟩
  have hs1 : Below w.heap.size w w1 := Below.trans (by repeat (first | exact Below.refl _ _ | refine Below.alloc ?_ (by simp <;> omega) _)) (hb1.mono (by simp <;> omega))
  have c_p_0 : w1.cell? ⟨w.heap.size, 0, none⟩ = some (.int .i64 s) := (hb1.cell (by simp <;> omega)).trans (by go_simp)
  have c_p_1 : w1.cell? ⟨w.heap.size, 1, none⟩ = some (.int .i64 a) := (hb1.cell (by simp <;> omega)).trans (by go_simp)
  have c_p_2 : w1.cell? ⟨w.heap.size, 2, none⟩ = some (.int .i64 o) := (hb1.cell (by simp <;> omega)).trans (by go_simp)
  have c_by_0 : w1.cell? ⟨w.heap.size + 1, 0, none⟩ = some (.int .i64 S) := (hb1.cell (by simp <;> omega)).trans (by go_simp)
  have c_by_1 : w1.cell? ⟨w.heap.size + 1, 1, none⟩ = some (.int .i64 H) := (hb1.cell (by simp <;> omega)).trans (by go_simp)
  have c_r_0 : w1.cell? ⟨w.heap.size + 1 + 1, 0, none⟩ = some (.int .i64 0) := (hb1.cell (by simp <;> omega)).trans (by go_simp)
  have f_r_0 : w1.frozen? ⟨w.heap.size + 1 + 1, 0, none⟩ = false := (hb1.frozen (by simp <;> omega)).trans (by go_simp)
  have c_r_1 : w1.cell? ⟨w.heap.size + 1 + 1, 1, none⟩ = some (.int .i64 0) := (hb1.cell (by simp <;> omega)).trans (by go_simp)
  have f_r_1 : w1.frozen? ⟨w.heap.size + 1 + 1, 1, none⟩ = false := (hb1.frozen (by simp <;> omega)).trans (by go_simp)
  have c_r_2 : w1.cell? ⟨w.heap.size + 1 + 1, 2, none⟩ = some (.int .i64 0) := (hb1.cell (by simp <;> omega)).trans (by go_simp)
  have f_r_2 : w1.frozen? ⟨w.heap.size + 1 + 1, 2, none⟩ = false := (hb1.frozen (by simp <;> omega)).trans (by go_simp)
  have z_by := World.block_lt_of_cell? _ _ c_by_0
  have z_p := World.block_lt_of_cell? _ _ c_p_0
  have z_r := World.block_lt_of_cell? _ _ c_r_0
  have hB1 := below_two hB0 hs1
  clear hB0 hs1 hb1
  rw [h, HL.out]
  simp only [onlyR, errP, if_true]
  go_wp2_with fail
  refine (refNumber_any _ _ _ _).mono ?_
  rintro e w2 ⟨rfl, hb2⟩
  have hs2 := hb2
  clear c_p_0
  clear c_p_1
  clear c_p_2
  replace c_by_0 := cell_later hs2 c_by_0
  replace c_by_1 := cell_later hs2 c_by_1
  replace f_r_0 := frozen_later hs2 c_r_0 f_r_0
  replace c_r_0 := cell_later hs2 c_r_0
  replace f_r_1 := frozen_later hs2 c_r_1 f_r_1
  replace c_r_1 := cell_later hs2 c_r_1
  replace f_r_2 := frozen_later hs2 c_r_2 f_r_2
  replace c_r_2 := cell_later hs2 c_r_2
  clear z_by
  have z_by := World.block_lt_of_cell? _ _ c_by_0
  clear z_r
  have z_r := World.block_lt_of_cell? _ _ c_r_0
  clear z_p
  have hB2 := below_two hB1 hs2
  clear hB1 hs2
  rw [h, HN.out]
  simp only [onlyR, errP, if_true]
  obtain ⟨m0, m1, m2⟩ := put3_of (x := .int .i64 0) (y := .int .i64 0) (z := .int .i64 0) c_r_0 c_r_1 c_r_2
  go_wp2
  exact bodyPost_ret (v := .tuple #[.agg #[.int .i64 0, .int .i64 0, .int .i64 0], .int .i64 20]) (by simp [results, Tryd.results44, go_sem, m0, m1, m2]) rfl ⟨rfl, put3_below hB2 (by omega)⟩

set_option maxRecDepth 100000 in
set_option maxHeartbeats 4000000 in
theorem refUp_h0 (s a o S H : Int) (w : World) (h : Pit.right s a o = true) (L N : Int) (HL : Hid (Pit.lin s o = L)) (HN : Hid (Pit.num s a o = N)) (s0 : ¬ S < -100) (s1 : ¬ 100 < S) (h0 : H < -200) :
    Calls Tryd.prog 44 #[pt s a o, iv S H] w fun e w' => e = .returned (pv 0 0 0 20) ∧ Below w.heap.size w w' := by
  have hB0 : Below w.heap.size w w := Below.refl _ _
  go_enter Tryd.func44, Tryd.ntmps44
  go_wp2_with fail
  refine (refLine_any _ _ _ _).mono ?_
  rintro e w1 ⟨rfl, hb1⟩
  have hs1 : Below w.heap.size w w1 := Below.trans (by repeat (first | exact Below.refl _ _ | refine Below.alloc ?_ (by simp <;> omega) _)) (hb1.mono (by simp <;> omega))
  have c_p_0 : w1.cell? ⟨w.heap.size, 0, none⟩ = some (.int .i64 s) := (hb1.cell (by simp <;> omega)).trans (by go_simp)
  have c_p_1 : w1.cell? ⟨w.heap.size, 1, none⟩ = some (.int .i64 a) := (hb1.cell (by simp <;> omega)).trans (by go_simp)
  have c_p_2 : w1.cell? ⟨w.heap.size, 2, none⟩ = some (.int .i64 o) := (hb1.cell (by simp <;> omega)).trans (by go_simp)
  have c_by_0 : w1.cell? ⟨w.heap.size + 1, 0, none⟩ = some (.int .i64 S) := (hb1.cell (by simp <;> omega)).trans (by go_simp)
  have c_by_1 : w1.cell? ⟨w.heap.size + 1, 1, none⟩ = some (.int .i64 H) := (hb1.cell (by simp <;> omega)).trans (by go_simp)
  have c_r_0 : w1.cell? ⟨w.heap.size + 1 + 1, 0, none⟩ = some (.int .i64 0) := (hb1.cell (by simp <;> omega)).trans (by go_simp)
  have f_r_0 : w1.frozen? ⟨w.heap.size + 1 + 1, 0, none⟩ = false := (hb1.frozen (by simp <;> omega)).trans (by go_simp)
  have c_r_1 : w1.cell? ⟨w.heap.size + 1 + 1, 1, none⟩ = some (.int .i64 0) := (hb1.cell (by simp <;> omega)).trans (by go_simp)
  have f_r_1 : w1.frozen? ⟨w.heap.size + 1 + 1, 1, none⟩ = false := (hb1.frozen (by simp <;> omega)).trans (by go_simp)
  have c_r_2 : w1.cell? ⟨w.heap.size + 1 + 1, 2, none⟩ = some (.int .i64 0) := (hb1.cell (by simp <;> omega)).trans (by go_simp)
  have f_r_2 : w1.frozen? ⟨w.heap.size + 1 + 1, 2, none⟩ = false := (hb1.frozen (by simp <;> omega)).trans (by go_simp)
  have z_by := World.block_lt_of_cell? _ _ c_by_0
  have z_p := World.block_lt_of_cell? _ _ c_p_0
  have z_r := World.block_lt_of_cell? _ _ c_r_0
  have hB1 := below_two hB0 hs1
  clear hB0 hs1 hb1
  rw [h, HL.out]
  simp only [onlyR, errP, if_true]
  go_wp2_with fail
  refine (refNumber_any _ _ _ _).mono ?_
  rintro e w2 ⟨rfl, hb2⟩
  have hs2 := hb2
  clear c_p_0
  clear c_p_1
  clear c_p_2
  replace c_by_0 := cell_later hs2 c_by_0
  replace c_by_1 := cell_later hs2 c_by_1
  replace f_r_0 := frozen_later hs2 c_r_0 f_r_0
  replace c_r_0 := cell_later hs2 c_r_0
  replace f_r_1 := frozen_later hs2 c_r_1 f_r_1
  replace c_r_1 := cell_later hs2 c_r_1
  replace f_r_2 := frozen_later hs2 c_r_2 f_r_2
  replace c_r_2 := cell_later hs2 c_r_2
  clear z_by
  have z_by := World.block_lt_of_cell? _ _ c_by_0
  clear z_r
  have z_r := World.block_lt_of_cell? _ _ c_r_0
  clear z_p
  have hB2 := below_two hB1 hs2
  clear hB1 hs2
  rw [h, HN.out]
  simp only [onlyR, errP, if_true]
  obtain ⟨m0, m1, m2⟩ := put3_of (x := .int .i64 0) (y := .int .i64 0) (z := .int .i64 0) c_r_0 c_r_1 c_r_2
  go_wp2
  exact bodyPost_ret (v := .tuple #[.agg #[.int .i64 0, .int .i64 0, .int .i64 0], .int .i64 20]) (by simp [results, Tryd.results44, go_sem, m0, m1, m2]) rfl ⟨rfl, put3_below hB2 (by omega)⟩

set_option maxRecDepth 100000 in
set_option maxHeartbeats 4000000 in
theorem refUp_h1 (s a o S H : Int) (w : World) (h : Pit.right s a o = true) (L N : Int) (HL : Hid (Pit.lin s o = L)) (HN : Hid (Pit.num s a o = N)) (s0 : ¬ S < -100) (s1 : ¬ 100 < S) (h0 : ¬ H < -200) (h1 : 200 < H) :
    Calls Tryd.prog 44 #[pt s a o, iv S H] w fun e w' => e = .returned (pv 0 0 0 20) ∧ Below w.heap.size w w' := by
  have hB0 : Below w.heap.size w w := Below.refl _ _
  go_enter Tryd.func44, Tryd.ntmps44
  go_wp2_with fail
  refine (refLine_any _ _ _ _).mono ?_
  rintro e w1 ⟨rfl, hb1⟩
  have hs1 : Below w.heap.size w w1 := Below.trans (by repeat (first | exact Below.refl _ _ | refine Below.alloc ?_ (by simp <;> omega) _)) (hb1.mono (by simp <;> omega))
  have c_p_0 : w1.cell? ⟨w.heap.size, 0, none⟩ = some (.int .i64 s) := (hb1.cell (by simp <;> omega)).trans (by go_simp)
  have c_p_1 : w1.cell? ⟨w.heap.size, 1, none⟩ = some (.int .i64 a) := (hb1.cell (by simp <;> omega)).trans (by go_simp)
  have c_p_2 : w1.cell? ⟨w.heap.size, 2, none⟩ = some (.int .i64 o) := (hb1.cell (by simp <;> omega)).trans (by go_simp)
  have c_by_0 : w1.cell? ⟨w.heap.size + 1, 0, none⟩ = some (.int .i64 S) := (hb1.cell (by simp <;> omega)).trans (by go_simp)
  have c_by_1 : w1.cell? ⟨w.heap.size + 1, 1, none⟩ = some (.int .i64 H) := (hb1.cell (by simp <;> omega)).trans (by go_simp)
  have c_r_0 : w1.cell? ⟨w.heap.size + 1 + 1, 0, none⟩ = some (.int .i64 0) := (hb1.cell (by simp <;> omega)).trans (by go_simp)
  have f_r_0 : w1.frozen? ⟨w.heap.size + 1 + 1, 0, none⟩ = false := (hb1.frozen (by simp <;> omega)).trans (by go_simp)
  have c_r_1 : w1.cell? ⟨w.heap.size + 1 + 1, 1, none⟩ = some (.int .i64 0) := (hb1.cell (by simp <;> omega)).trans (by go_simp)
  have f_r_1 : w1.frozen? ⟨w.heap.size + 1 + 1, 1, none⟩ = false := (hb1.frozen (by simp <;> omega)).trans (by go_simp)
  have c_r_2 : w1.cell? ⟨w.heap.size + 1 + 1, 2, none⟩ = some (.int .i64 0) := (hb1.cell (by simp <;> omega)).trans (by go_simp)
  have f_r_2 : w1.frozen? ⟨w.heap.size + 1 + 1, 2, none⟩ = false := (hb1.frozen (by simp <;> omega)).trans (by go_simp)
  have z_by := World.block_lt_of_cell? _ _ c_by_0
  have z_p := World.block_lt_of_cell? _ _ c_p_0
  have z_r := World.block_lt_of_cell? _ _ c_r_0
  have hB1 := below_two hB0 hs1
  clear hB0 hs1 hb1
  rw [h, HL.out]
  simp only [onlyR, errP, if_true]
  go_wp2_with fail
  refine (refNumber_any _ _ _ _).mono ?_
  rintro e w2 ⟨rfl, hb2⟩
  have hs2 := hb2
  clear c_p_0
  clear c_p_1
  clear c_p_2
  replace c_by_0 := cell_later hs2 c_by_0
  replace c_by_1 := cell_later hs2 c_by_1
  replace f_r_0 := frozen_later hs2 c_r_0 f_r_0
  replace c_r_0 := cell_later hs2 c_r_0
  replace f_r_1 := frozen_later hs2 c_r_1 f_r_1
  replace c_r_1 := cell_later hs2 c_r_1
  replace f_r_2 := frozen_later hs2 c_r_2 f_r_2
  replace c_r_2 := cell_later hs2 c_r_2
  clear z_by
  have z_by := World.block_lt_of_cell? _ _ c_by_0
  clear z_r
  have z_r := World.block_lt_of_cell? _ _ c_r_0
  clear z_p
  have hB2 := below_two hB1 hs2
  clear hB1 hs2
  rw [h, HN.out]
  simp only [onlyR, errP, if_true]
  obtain ⟨m0, m1, m2⟩ := put3_of (x := .int .i64 0) (y := .int .i64 0) (z := .int .i64 0) c_r_0 c_r_1 c_r_2
  go_wp2
  exact bodyPost_ret (v := .tuple #[.agg #[.int .i64 0, .int .i64 0, .int .i64 0], .int .i64 20]) (by simp [results, Tryd.results44, go_sem, m0, m1, m2]) rfl ⟨rfl, put3_below hB2 (by omega)⟩

set_option maxRecDepth 100000 in
set_option maxHeartbeats 4000000 in
theorem refUp_neg (s a o S H : Int) (w : World) (h : Pit.right s a o = true) (L N : Int) (HL : Hid (Pit.lin s o = L)) (HN : Hid (Pit.num s a o = N)) (s0 : ¬ S < -100) (s1 : ¬ 100 < S) (h0 : ¬ H < -200) (h1 : ¬ 200 < H) (L0 : -7 ≤ L) (L1 : L ≤ 69) (T : Int) (hT : L + S + 7 = T) (hT0 : T < 0) :
    Calls Tryd.prog 44 #[pt s a o, iv S H] w fun e w' => e = .returned (pv 0 0 0 20) ∧ Below w.heap.size w w' := by
  have hB0 : Below w.heap.size w w := Below.refl _ _
  go_enter Tryd.func44, Tryd.ntmps44
  go_wp2_with fail
  refine (refLine_any _ _ _ _).mono ?_
  rintro e w1 ⟨rfl, hb1⟩
  have hs1 : Below w.heap.size w w1 := Below.trans (by repeat (first | exact Below.refl _ _ | refine Below.alloc ?_ (by simp <;> omega) _)) (hb1.mono (by simp <;> omega))
  have c_p_0 : w1.cell? ⟨w.heap.size, 0, none⟩ = some (.int .i64 s) := (hb1.cell (by simp <;> omega)).trans (by go_simp)
  have c_p_1 : w1.cell? ⟨w.heap.size, 1, none⟩ = some (.int .i64 a) := (hb1.cell (by simp <;> omega)).trans (by go_simp)
  have c_p_2 : w1.cell? ⟨w.heap.size, 2, none⟩ = some (.int .i64 o) := (hb1.cell (by simp <;> omega)).trans (by go_simp)
  have c_by_0 : w1.cell? ⟨w.heap.size + 1, 0, none⟩ = some (.int .i64 S) := (hb1.cell (by simp <;> omega)).trans (by go_simp)
  have c_by_1 : w1.cell? ⟨w.heap.size + 1, 1, none⟩ = some (.int .i64 H) := (hb1.cell (by simp <;> omega)).trans (by go_simp)
  have c_r_0 : w1.cell? ⟨w.heap.size + 1 + 1, 0, none⟩ = some (.int .i64 0) := (hb1.cell (by simp <;> omega)).trans (by go_simp)
  have f_r_0 : w1.frozen? ⟨w.heap.size + 1 + 1, 0, none⟩ = false := (hb1.frozen (by simp <;> omega)).trans (by go_simp)
  have c_r_1 : w1.cell? ⟨w.heap.size + 1 + 1, 1, none⟩ = some (.int .i64 0) := (hb1.cell (by simp <;> omega)).trans (by go_simp)
  have f_r_1 : w1.frozen? ⟨w.heap.size + 1 + 1, 1, none⟩ = false := (hb1.frozen (by simp <;> omega)).trans (by go_simp)
  have c_r_2 : w1.cell? ⟨w.heap.size + 1 + 1, 2, none⟩ = some (.int .i64 0) := (hb1.cell (by simp <;> omega)).trans (by go_simp)
  have f_r_2 : w1.frozen? ⟨w.heap.size + 1 + 1, 2, none⟩ = false := (hb1.frozen (by simp <;> omega)).trans (by go_simp)
  have z_by := World.block_lt_of_cell? _ _ c_by_0
  have z_p := World.block_lt_of_cell? _ _ c_p_0
  have z_r := World.block_lt_of_cell? _ _ c_r_0
  have hB1 := below_two hB0 hs1
  clear hB0 hs1 hb1
  rw [h, HL.out]
  simp only [onlyR, errP, if_true]
  go_wp2_with fail
  refine (refNumber_any _ _ _ _).mono ?_
  rintro e w2 ⟨rfl, hb2⟩
  have hs2 := hb2
  clear c_p_0
  clear c_p_1
  clear c_p_2
  replace c_by_0 := cell_later hs2 c_by_0
  replace c_by_1 := cell_later hs2 c_by_1
  replace f_r_0 := frozen_later hs2 c_r_0 f_r_0
  replace c_r_0 := cell_later hs2 c_r_0
  replace f_r_1 := frozen_later hs2 c_r_1 f_r_1
  replace c_r_1 := cell_later hs2 c_r_1
  replace f_r_2 := frozen_later hs2 c_r_2 f_r_2
  replace c_r_2 := cell_later hs2 c_r_2
  clear z_by
  have z_by := World.block_lt_of_cell? _ _ c_by_0
  clear z_r
  have z_r := World.block_lt_of_cell? _ _ c_r_0
  clear z_p
  have hB2 := below_two hB1 hs2
  clear hB1 hs2
  rw [h, HN.out]
  simp only [onlyR, errP, if_true]
  have hU : UpW w S H w2 := ⟨c_by_0, c_by_1, c_r_0, c_r_1, c_r_2, f_r_0, f_r_1, f_r_2, hB2⟩
  go_wp2_with fail
  clear c_by_0 c_by_1 c_r_0 c_r_1 c_r_2 f_r_0 f_r_1 f_r_2 hB2 z_by z_r
  go_loopw [10] (fun i wr => UpRel w S H (-2) i wr) (fun i _ => (3 - intOf i).toNat)
  case atStart => exact ⟨-2, rfl, by omega, by omega, hU⟩
  case round =>
    clear hU
    obtain ⟨al, rfl, a0, a1, hU⟩ := hrel
    obtain rfl : al = -2 := by omega
    obtain ⟨b0, b1, r0, r1, r2, f0, f1, f2, hB⟩ := hU
    obtain ⟨m0, m1, m2⟩ := put3_of (x := .int .i64 0) (y := .int .i64 0) (z := .int .i64 0) r0 r1 r2
    go_wp2
    exact bodyPost_ret (v := pv 0 0 0 20) (by simp [results, Tryd.results44, go_sem, m0, m1, m2]) rfl ⟨rfl, put3_below hB (by omega)⟩

set_option maxRecDepth 100000 in
set_option maxHeartbeats 4000000 in
theorem refUp_none (s a o S H : Int) (w : World) (h : Pit.right s a o = true) (L N : Int) (HL : Hid (Pit.lin s o = L)) (HN : Hid (Pit.num s a o = N)) (s0 : ¬ S < -100) (s1 : ¬ 100 < S) (h0 : ¬ H < -200) (h1 : ¬ 200 < H) (L0 : -7 ≤ L) (L1 : L ≤ 69) (T : Int) (hT : L + S + 7 = T) (hT0 : ¬ T < 0) (R D O : Int) (hm : T.tmod 7 = R) (hm' : T % 7 = R) (hd : T.tdiv 7 = D) (hd' : T / 7 = D) (hO : D - 1 = O) (D0 : 0 ≤ D) (D1 : D ≤ 30) (N0 : 0 ≤ N) (N1 : N ≤ 127) (HMiss : Hid (∀ al : Int, -2 ≤ al → al ≤ 2 → Pit.right R al O = true → Pit.num R al O ≠ N + H)) :
    Calls Tryd.prog 44 #[pt s a o, iv S H] w fun e w' => e = .returned (pv 0 0 0 20) ∧ Below w.heap.size w w' := by
  have hB0 : Below w.heap.size w w := Below.refl _ _
  go_enter Tryd.func44, Tryd.ntmps44
  go_wp2_with fail
  refine (refLine_any _ _ _ _).mono ?_
  rintro e w1 ⟨rfl, hb1⟩
  have hs1 : Below w.heap.size w w1 := Below.trans (by repeat (first | exact Below.refl _ _ | refine Below.alloc ?_ (by simp <;> omega) _)) (hb1.mono (by simp <;> omega))
  have c_p_0 : w1.cell? ⟨w.heap.size, 0, none⟩ = some (.int .i64 s) := (hb1.cell (by simp <;> omega)).trans (by go_simp)
  have c_p_1 : w1.cell? ⟨w.heap.size, 1, none⟩ = some (.int .i64 a) := (hb1.cell (by simp <;> omega)).trans (by go_simp)
  have c_p_2 : w1.cell? ⟨w.heap.size, 2, none⟩ = some (.int .i64 o) := (hb1.cell (by simp <;> omega)).trans (by go_simp)
  have c_by_0 : w1.cell? ⟨w.heap.size + 1, 0, none⟩ = some (.int .i64 S) := (hb1.cell (by simp <;> omega)).trans (by go_simp)
  have c_by_1 : w1.cell? ⟨w.heap.size + 1, 1, none⟩ = some (.int .i64 H) := (hb1.cell (by simp <;> omega)).trans (by go_simp)
  have c_r_0 : w1.cell? ⟨w.heap.size + 1 + 1, 0, none⟩ = some (.int .i64 0) := (hb1.cell (by simp <;> omega)).trans (by go_simp)
  have f_r_0 : w1.frozen? ⟨w.heap.size + 1 + 1, 0, none⟩ = false := (hb1.frozen (by simp <;> omega)).trans (by go_simp)
  have c_r_1 : w1.cell? ⟨w.heap.size + 1 + 1, 1, none⟩ = some (.int .i64 0) := (hb1.cell (by simp <;> omega)).trans (by go_simp)
  have f_r_1 : w1.frozen? ⟨w.heap.size + 1 + 1, 1, none⟩ = false := (hb1.frozen (by simp <;> omega)).trans (by go_simp)
  have c_r_2 : w1.cell? ⟨w.heap.size + 1 + 1, 2, none⟩ = some (.int .i64 0) := (hb1.cell (by simp <;> omega)).trans (by go_simp)
  have f_r_2 : w1.frozen? ⟨w.heap.size + 1 + 1, 2, none⟩ = false := (hb1.frozen (by simp <;> omega)).trans (by go_simp)
  have z_by := World.block_lt_of_cell? _ _ c_by_0
  have z_p := World.block_lt_of_cell? _ _ c_p_0
  have z_r := World.block_lt_of_cell? _ _ c_r_0
  have hB1 := below_two hB0 hs1
  clear hB0 hs1 hb1
  rw [h, HL.out]
  simp only [onlyR, errP, if_true]
  go_wp2_with fail
  refine (refNumber_any _ _ _ _).mono ?_
  rintro e w2 ⟨rfl, hb2⟩
  have hs2 := hb2
  clear c_p_0
  clear c_p_1
  clear c_p_2
  replace c_by_0 := cell_later hs2 c_by_0
  replace c_by_1 := cell_later hs2 c_by_1
  replace f_r_0 := frozen_later hs2 c_r_0 f_r_0
  replace c_r_0 := cell_later hs2 c_r_0
  replace f_r_1 := frozen_later hs2 c_r_1 f_r_1
  replace c_r_1 := cell_later hs2 c_r_1
  replace f_r_2 := frozen_later hs2 c_r_2 f_r_2
  replace c_r_2 := cell_later hs2 c_r_2
  clear z_by
  have z_by := World.block_lt_of_cell? _ _ c_by_0
  clear z_r
  have z_r := World.block_lt_of_cell? _ _ c_r_0
  clear z_p
  have hB2 := below_two hB1 hs2
  clear hB1 hs2
  rw [h, HN.out]
  simp only [onlyR, errP, if_true]
  have hU : UpW w S H w2 := ⟨c_by_0, c_by_1, c_r_0, c_r_1, c_r_2, f_r_0, f_r_1, f_r_2, hB2⟩
  go_wp2_with fail
  clear c_by_0 c_by_1 c_r_0 c_r_1 c_r_2 f_r_0 f_r_1 f_r_2 hB2 z_by z_r
  go_loopw [10] (fun i wr => UpRel w S H 3 i wr) (fun i _ => (3 - intOf i).toNat)
  case atStart => exact ⟨-2, rfl, by omega, by omega, hU⟩
  case round =>
    clear hU
    obtain ⟨al, rfl, a0, a1, hU⟩ := hrel
    by_cases ha : al ≤ 2
    · have b0 := hU.b0
      have b1 := hU.b1
      cases hrt : Pit.right R al O with
      | false =>
        have HRt := Lib.hid hrt
        clear hrt
        go_wp2_with fail
        have hs2 := alloc_below (o := .cells #[.int .i64 R, .int .i64 al, .int .i64 O] 57) (Below.refl wr.heap.size wr)
        have q0 : (wr.alloc (.cells #[.int .i64 R, .int .i64 al, .int .i64 O] 57)).cell? ⟨wr.heap.size, 0, none⟩ = some (.int .i64 R) := by go_simp
        have q1 : (wr.alloc (.cells #[.int .i64 R, .int .i64 al, .int .i64 O] 57)).cell? ⟨wr.heap.size, 1, none⟩ = some (.int .i64 al) := by go_simp
        have q2 : (wr.alloc (.cells #[.int .i64 R, .int .i64 al, .int .i64 O] 57)).cell? ⟨wr.heap.size, 2, none⟩ = some (.int .i64 O) := by go_simp
        have HU := Lib.hid (hU.later hs2)
        clear hs2 hU b0 b1
        generalize wr.alloc (.cells #[.int .i64 R, .int .i64 al, .int .i64 O] 57) = w3 at *
        refine (refNumber_any _ _ _ _).mono ?_
        rintro e w4 ⟨rfl, hb⟩
        replace q0 := cell_later hb q0
        replace q1 := cell_later hb q1
        replace q2 := cell_later hb q2
        replace HU := Lib.hid (HU.out.later hb)
        clear hb
        obtain ⟨b0, b1, r0, r1, r2, f0, f1, f2, hB⟩ := HU.out
        rw [HRt.out]
        simp only [onlyR, errP, if_false, Bool.false_eq_true]
        clear r0 r1 r2 f0 f1 f2 hB
        go_wp2
        exact ⟨⟨al + 1, by go_num, by omega, by omega, HU.out⟩, by simp [intOf]; omega⟩
      | true =>
        obtain ⟨M, hM⟩ : ∃ M, Pit.num R al O = M := ⟨_, rfl⟩
        have HM := Lib.hid hM
        have hMN : (M == N + H) = false := by
          have := HMiss.out al a0 (by omega) hrt
          rw [hM] at this
          simp [this]
        have HRt := Lib.hid hrt
        clear hrt hM
        go_wp2_with fail
        have hs2 := alloc_below (o := .cells #[.int .i64 R, .int .i64 al, .int .i64 O] 57) (Below.refl wr.heap.size wr)
        have q0 : (wr.alloc (.cells #[.int .i64 R, .int .i64 al, .int .i64 O] 57)).cell? ⟨wr.heap.size, 0, none⟩ = some (.int .i64 R) := by go_simp
        have q1 : (wr.alloc (.cells #[.int .i64 R, .int .i64 al, .int .i64 O] 57)).cell? ⟨wr.heap.size, 1, none⟩ = some (.int .i64 al) := by go_simp
        have q2 : (wr.alloc (.cells #[.int .i64 R, .int .i64 al, .int .i64 O] 57)).cell? ⟨wr.heap.size, 2, none⟩ = some (.int .i64 O) := by go_simp
        have HU := Lib.hid (hU.later hs2)
        clear hs2 hU b0 b1
        generalize wr.alloc (.cells #[.int .i64 R, .int .i64 al, .int .i64 O] 57) = w3 at *
        refine (refNumber_any _ _ _ _).mono ?_
        rintro e w4 ⟨rfl, hb⟩
        replace q0 := cell_later hb q0
        replace q1 := cell_later hb q1
        replace q2 := cell_later hb q2
        replace HU := Lib.hid (HU.out.later hb)
        clear hb
        obtain ⟨b0, b1, r0, r1, r2, f0, f1, f2, hB⟩ := HU.out
        rw [HRt.out, HM.out]
        simp only [onlyR, errP, if_true]
        clear r0 r1 r2 f0 f1 f2 hB
        go_wp2
        exact ⟨⟨al + 1, by go_num, by omega, by omega, HU.out⟩, by simp [intOf]; omega⟩
    · obtain rfl : al = 3 := by omega
      obtain ⟨b0, b1, r0, r1, r2, f0, f1, f2, hB⟩ := hU
      obtain ⟨m0, m1, m2⟩ := put3_of (x := .int .i64 0) (y := .int .i64 0) (z := .int .i64 0) r0 r1 r2
      go_wp2
      exact bodyPost_ret (v := pv 0 0 0 20) (by simp [results, Tryd.results44, go_sem, m0, m1, m2]) rfl ⟨rfl, put3_below hB (by omega)⟩

set_option maxRecDepth 100000 in
set_option maxHeartbeats 4000000 in
theorem refUp_some (s a o S H : Int) (w : World) (h : Pit.right s a o = true) (L N : Int) (HL : Hid (Pit.lin s o = L)) (HN : Hid (Pit.num s a o = N)) (s0 : ¬ S < -100) (s1 : ¬ 100 < S) (h0 : ¬ H < -200) (h1 : ¬ 200 < H) (L0 : -7 ≤ L) (L1 : L ≤ 69) (T : Int) (hT : L + S + 7 = T) (hT0 : ¬ T < 0) (R D O : Int) (hm : T.tmod 7 = R) (hm' : T % 7 = R) (hd : T.tdiv 7 = D) (hd' : T / 7 = D) (hO : D - 1 = O) (D0 : 0 ≤ D) (D1 : D ≤ 30) (N0 : 0 ≤ N) (N1 : N ≤ 127) (X : Int) (X0 : -2 ≤ X) (X2 : X ≤ 2) (HRX : Hid (Pit.right R X O = true)) (HNX : Hid (Pit.num R X O = N + H)) (HMiss : Hid (∀ al : Int, -2 ≤ al → al < X → Pit.right R al O = true → Pit.num R al O ≠ N + H)) :
    Calls Tryd.prog 44 #[pt s a o, iv S H] w fun e w' => e = .returned (pv R X O 0) ∧ Below w.heap.size w w' := by
  have hB0 : Below w.heap.size w w := Below.refl _ _
  go_enter Tryd.func44, Tryd.ntmps44
  go_wp2_with fail
  refine (refLine_any _ _ _ _).mono ?_
  rintro e w1 ⟨rfl, hb1⟩
  have hs1 : Below w.heap.size w w1 := Below.trans (by repeat (first | exact Below.refl _ _ | refine Below.alloc ?_ (by simp <;> omega) _)) (hb1.mono (by simp <;> omega))
  have c_p_0 : w1.cell? ⟨w.heap.size, 0, none⟩ = some (.int .i64 s) := (hb1.cell (by simp <;> omega)).trans (by go_simp)
  have c_p_1 : w1.cell? ⟨w.heap.size, 1, none⟩ = some (.int .i64 a) := (hb1.cell (by simp <;> omega)).trans (by go_simp)
  have c_p_2 : w1.cell? ⟨w.heap.size, 2, none⟩ = some (.int .i64 o) := (hb1.cell (by simp <;> omega)).trans (by go_simp)
  have c_by_0 : w1.cell? ⟨w.heap.size + 1, 0, none⟩ = some (.int .i64 S) := (hb1.cell (by simp <;> omega)).trans (by go_simp)
  have c_by_1 : w1.cell? ⟨w.heap.size + 1, 1, none⟩ = some (.int .i64 H) := (hb1.cell (by simp <;> omega)).trans (by go_simp)
  have c_r_0 : w1.cell? ⟨w.heap.size + 1 + 1, 0, none⟩ = some (.int .i64 0) := (hb1.cell (by simp <;> omega)).trans (by go_simp)
  have f_r_0 : w1.frozen? ⟨w.heap.size + 1 + 1, 0, none⟩ = false := (hb1.frozen (by simp <;> omega)).trans (by go_simp)
  have c_r_1 : w1.cell? ⟨w.heap.size + 1 + 1, 1, none⟩ = some (.int .i64 0) := (hb1.cell (by simp <;> omega)).trans (by go_simp)
  have f_r_1 : w1.frozen? ⟨w.heap.size + 1 + 1, 1, none⟩ = false := (hb1.frozen (by simp <;> omega)).trans (by go_simp)
  have c_r_2 : w1.cell? ⟨w.heap.size + 1 + 1, 2, none⟩ = some (.int .i64 0) := (hb1.cell (by simp <;> omega)).trans (by go_simp)
  have f_r_2 : w1.frozen? ⟨w.heap.size + 1 + 1, 2, none⟩ = false := (hb1.frozen (by simp <;> omega)).trans (by go_simp)
  have z_by := World.block_lt_of_cell? _ _ c_by_0
  have z_p := World.block_lt_of_cell? _ _ c_p_0
  have z_r := World.block_lt_of_cell? _ _ c_r_0
  have hB1 := below_two hB0 hs1
  clear hB0 hs1 hb1
  rw [h, HL.out]
  simp only [onlyR, errP, if_true]
  go_wp2_with fail
  refine (refNumber_any _ _ _ _).mono ?_
  rintro e w2 ⟨rfl, hb2⟩
  have hs2 := hb2
  clear c_p_0
  clear c_p_1
  clear c_p_2
  replace c_by_0 := cell_later hs2 c_by_0
  replace c_by_1 := cell_later hs2 c_by_1
  replace f_r_0 := frozen_later hs2 c_r_0 f_r_0
  replace c_r_0 := cell_later hs2 c_r_0
  replace f_r_1 := frozen_later hs2 c_r_1 f_r_1
  replace c_r_1 := cell_later hs2 c_r_1
  replace f_r_2 := frozen_later hs2 c_r_2 f_r_2
  replace c_r_2 := cell_later hs2 c_r_2
  clear z_by
  have z_by := World.block_lt_of_cell? _ _ c_by_0
  clear z_r
  have z_r := World.block_lt_of_cell? _ _ c_r_0
  clear z_p
  have hB2 := below_two hB1 hs2
  clear hB1 hs2
  rw [h, HN.out]
  simp only [onlyR, errP, if_true]
  have hU : UpW w S H w2 := ⟨c_by_0, c_by_1, c_r_0, c_r_1, c_r_2, f_r_0, f_r_1, f_r_2, hB2⟩
  go_wp2_with fail
  clear c_by_0 c_by_1 c_r_0 c_r_1 c_r_2 f_r_0 f_r_1 f_r_2 hB2 z_by z_r
  go_loopw [10] (fun i wr => UpRel w S H X i wr) (fun i _ => (3 - intOf i).toNat)
  case atStart => exact ⟨-2, rfl, by omega, by omega, hU⟩
  case round =>
    clear hU
    obtain ⟨al, rfl, a0, a1, hU⟩ := hrel
    by_cases ha : al < X
    · have b0 := hU.b0
      have b1 := hU.b1
      cases hrt : Pit.right R al O with
      | false =>
        have HRt := Lib.hid hrt
        clear hrt
        go_wp2_with fail
        have hs2 := alloc_below (o := .cells #[.int .i64 R, .int .i64 al, .int .i64 O] 57) (Below.refl wr.heap.size wr)
        have q0 : (wr.alloc (.cells #[.int .i64 R, .int .i64 al, .int .i64 O] 57)).cell? ⟨wr.heap.size, 0, none⟩ = some (.int .i64 R) := by go_simp
        have q1 : (wr.alloc (.cells #[.int .i64 R, .int .i64 al, .int .i64 O] 57)).cell? ⟨wr.heap.size, 1, none⟩ = some (.int .i64 al) := by go_simp
        have q2 : (wr.alloc (.cells #[.int .i64 R, .int .i64 al, .int .i64 O] 57)).cell? ⟨wr.heap.size, 2, none⟩ = some (.int .i64 O) := by go_simp
        have HU := Lib.hid (hU.later hs2)
        clear hs2 hU b0 b1
        generalize wr.alloc (.cells #[.int .i64 R, .int .i64 al, .int .i64 O] 57) = w3 at *
        refine (refNumber_any _ _ _ _).mono ?_
        rintro e w4 ⟨rfl, hb⟩
        replace q0 := cell_later hb q0
        replace q1 := cell_later hb q1
        replace q2 := cell_later hb q2
        replace HU := Lib.hid (HU.out.later hb)
        clear hb
        obtain ⟨b0, b1, r0, r1, r2, f0, f1, f2, hB⟩ := HU.out
        rw [HRt.out]
        simp only [onlyR, errP, if_false, Bool.false_eq_true]
        clear r0 r1 r2 f0 f1 f2 hB
        go_wp2
        exact ⟨⟨al + 1, by go_num, by omega, by omega, HU.out⟩, by simp [intOf]; omega⟩
      | true =>
        obtain ⟨M, hM⟩ : ∃ M, Pit.num R al O = M := ⟨_, rfl⟩
        have HM := Lib.hid hM
        have hMN : (M == N + H) = false := by
          have := HMiss.out al a0 (by omega) hrt
          rw [hM] at this
          simp [this]
        have HRt := Lib.hid hrt
        clear hrt hM
        go_wp2_with fail
        have hs2 := alloc_below (o := .cells #[.int .i64 R, .int .i64 al, .int .i64 O] 57) (Below.refl wr.heap.size wr)
        have q0 : (wr.alloc (.cells #[.int .i64 R, .int .i64 al, .int .i64 O] 57)).cell? ⟨wr.heap.size, 0, none⟩ = some (.int .i64 R) := by go_simp
        have q1 : (wr.alloc (.cells #[.int .i64 R, .int .i64 al, .int .i64 O] 57)).cell? ⟨wr.heap.size, 1, none⟩ = some (.int .i64 al) := by go_simp
        have q2 : (wr.alloc (.cells #[.int .i64 R, .int .i64 al, .int .i64 O] 57)).cell? ⟨wr.heap.size, 2, none⟩ = some (.int .i64 O) := by go_simp
        have HU := Lib.hid (hU.later hs2)
        clear hs2 hU b0 b1
        generalize wr.alloc (.cells #[.int .i64 R, .int .i64 al, .int .i64 O] 57) = w3 at *
        refine (refNumber_any _ _ _ _).mono ?_
        rintro e w4 ⟨rfl, hb⟩
        replace q0 := cell_later hb q0
        replace q1 := cell_later hb q1
        replace q2 := cell_later hb q2
        replace HU := Lib.hid (HU.out.later hb)
        clear hb
        obtain ⟨b0, b1, r0, r1, r2, f0, f1, f2, hB⟩ := HU.out
        rw [HRt.out, HM.out]
        simp only [onlyR, errP, if_true]
        clear r0 r1 r2 f0 f1 f2 hB
        go_wp2
        exact ⟨⟨al + 1, by go_num, by omega, by omega, HU.out⟩, by simp [intOf]; omega⟩
    · obtain rfl : al = X := by omega
      have b0 := hU.b0
      have b1 := hU.b1
      go_wp2_with fail
      have hs2 := alloc_below (o := .cells #[.int .i64 R, .int .i64 al, .int .i64 O] 57) (Below.refl wr.heap.size wr)
      have q0 : (wr.alloc (.cells #[.int .i64 R, .int .i64 al, .int .i64 O] 57)).cell? ⟨wr.heap.size, 0, none⟩ = some (.int .i64 R) := by go_simp
      have q1 : (wr.alloc (.cells #[.int .i64 R, .int .i64 al, .int .i64 O] 57)).cell? ⟨wr.heap.size, 1, none⟩ = some (.int .i64 al) := by go_simp
      have q2 : (wr.alloc (.cells #[.int .i64 R, .int .i64 al, .int .i64 O] 57)).cell? ⟨wr.heap.size, 2, none⟩ = some (.int .i64 O) := by go_simp
      have HU := Lib.hid (hU.later hs2)
      clear hs2 hU b0 b1
      generalize wr.alloc (.cells #[.int .i64 R, .int .i64 al, .int .i64 O] 57) = w3 at *
      refine (refNumber_any _ _ _ _).mono ?_
      rintro e w4 ⟨rfl, hb⟩
      replace q0 := cell_later hb q0
      replace q1 := cell_later hb q1
      replace q2 := cell_later hb q2
      replace HU := Lib.hid (HU.out.later hb)
      clear hb
      obtain ⟨b0, b1, r0, r1, r2, f0, f1, f2, hB⟩ := HU.out
      rw [HRX.out, HNX.out]
      simp only [onlyR, errP, if_true]
      obtain ⟨m0, m1, m2⟩ := put3_of (x := .int .i64 R) (y := .int .i64 al) (z := .int .i64 O) r0 r1 r2
      go_wp2
      exact bodyPost_ret (v := pv R al O 0) (by simp [results, Tryd.results44, go_sem, m0, m1, m2]) rfl ⟨rfl, put3_below hB (by omega)⟩

theorem refUp_any (s a o S H : Int) (w : World) :
    Calls Tryd.prog 44 #[pt s a o, iv S H] w fun e w' => e = .returned (upV (Pit.up s a o S H)) ∧ Below w.heap.size w w' := by
  cases hr : Pit.right s a o with
  | false => rw [up_val1 hr]; exact refUp_no1 s a o S H w hr
  | true =>
    have h := (Pit.right_iff _ _ _).1 hr
    obtain ⟨l0, l1⟩ := lin_bounds h
    have n0 := h.n0
    have nM := h.nM
    have far : (S < -100 ∨ 100 < S ∨ H < -200 ∨ 200 < H ∨ Pit.lin s o + S + 7 < 0) → Pit.up s a o S H = none := fun hf => Pit.up_none fun s' a' o' _ hq hl hn => by
      obtain ⟨k0, k1⟩ := lin_bounds hq
      have m0 := hq.n0
      have mM := hq.nM
      omega
    by_cases c1 : S < -100
    · rw [far (by omega)]; exact refUp_s0 s a o S H w hr _ _ (Lib.hid rfl) (Lib.hid rfl) c1
    by_cases c2 : 100 < S
    · rw [far (by omega)]; exact refUp_s1 s a o S H w hr _ _ (Lib.hid rfl) (Lib.hid rfl) c1 c2
    by_cases c3 : H < -200
    · rw [far (by omega)]; exact refUp_h0 s a o S H w hr _ _ (Lib.hid rfl) (Lib.hid rfl) c1 c2 c3
    by_cases c4 : 200 < H
    · rw [far (by omega)]; exact refUp_h1 s a o S H w hr _ _ (Lib.hid rfl) (Lib.hid rfl) c1 c2 c3 c4
    by_cases c5 : Pit.lin s o + S + 7 < 0
    · rw [far (by omega)]; exact refUp_neg s a o S H w hr _ _ (Lib.hid rfl) (Lib.hid rfl) c1 c2 c3 c4 l0 l1 _ rfl c5
    have e1 : (Pit.lin s o + S + 7).tmod 7 = (Pit.lin s o + S + 7) % 7 := Int.tmod_eq_emod_of_nonneg (by omega)
    have e2 : (Pit.lin s o + S + 7).tdiv 7 = (Pit.lin s o + S + 7) / 7 := Int.tdiv_eq_ediv_of_nonneg (by omega)
    have hlin : Pit.lin ((Pit.lin s o + S + 7) % 7) ((Pit.lin s o + S + 7) / 7 - 1) = Pit.lin s o + S := by
      rw [Pit.lin_eq ((Pit.lin s o + S + 7) % 7)]; omega
    cases hu : Pit.up s a o S H with
    | none =>
      refine refUp_none s a o S H w hr _ _ (Lib.hid rfl) (Lib.hid rfl) c1 c2 c3 c4 l0 l1 _ rfl c5 _ _ _ e1 rfl e2 rfl rfl (by omega) (by omega) n0 nM (Lib.hid ?_)
      intro al _ _ hra hna
      have := Pit.up_complete h ((Pit.right_iff _ _ _).1 hra) hlin hna
      rw [hu] at this
      cases this
    | some q =>
      obtain ⟨R, X, O⟩ := q
      obtain ⟨_, hq, hl, hn⟩ := Pit.up_sound hu
      obtain ⟨q0, q1, q2, q3, q4, q5, -⟩ := hq.all
      have eR : (Pit.lin s o + S + 7) % 7 = R := by rw [← hl, Pit.lin_eq]; omega
      have eD : (Pit.lin s o + S + 7) / 7 = O + 1 := by rw [← hl, Pit.lin_eq]; omega
      rw [eR] at e1
      rw [eD] at e2
      refine refUp_some s a o S H w hr _ _ (Lib.hid rfl) (Lib.hid rfl) c1 c2 c3 c4 l0 l1 _ rfl c5 R (O + 1) O e1 eR e2 eD (by omega) (by omega) (by omega) n0 nM X q2 q3 (Lib.hid (Pit.right_true hq)) (Lib.hid hn) (Lib.hid ?_)
      intro al _ ha _ hna
      rw [← hn, Pit.num_eq, Pit.num_eq] at hna
      omega
end Go.Proofs.YtnfnonlbokddfaaDoor
