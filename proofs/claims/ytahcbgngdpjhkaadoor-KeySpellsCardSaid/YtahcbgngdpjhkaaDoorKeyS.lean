/-
  Layer 2's reference: half, Right, Number; the reference's Spell.
-/
import Derived.Test.YtahcbgngdpjhkaaDoorKeyM
import Derived.Test.YtahcbgngdpjhkaaDoorKeyL
namespace Go.Proofs.YtahcbgngdpjhkaaDoor
open Go.RowKit
theorem half_any (s : Int) (w : World) (h0 : 0 ≤ s) (h6 : s ≤ 6) :
    Calls Tryd.prog 59 #[.int .i64 s] w fun e w' => e = .returned (.int .i64 (Pit.hv s)) ∧ w = w' := by
  rcases Pit.hv_cases s with ⟨h, e⟩ | ⟨h, e⟩
  · rw [e]
    go_enter Tryd.func59, Tryd.ntmps59
    go_wp2
    go_ret
    exact ⟨rfl, rfl⟩
  · rw [e]
    have h' : ¬ s < 3 := by omega
    go_enter Tryd.func59, Tryd.ntmps59
    go_wp2
    go_ret
    exact ⟨rfl, rfl⟩

theorem refRight_1 (s a o : Int) (w : World) (h : s < 0) :
    Calls Tryd.prog 58 #[pt s a o] w fun e w' => e = .returned (.bool false) ∧ Below w.heap.size w w' := by
  go_enter Tryd.func58, Tryd.ntmps58
  go_wp2
  go_ret
  exact ⟨rfl, (by repeat (first | exact Below.refl _ _ | refine below_drewN ?_ _ | refine Below.drew ?_ | refine Below.setCell ?_ (by simp <;> omega) _ | refine Below.alloc ?_ (by simp <;> omega) _))⟩

theorem refRight_2 (s a o : Int) (w : World) (h0 : 0 ≤ s) (h : 6 < s) :
    Calls Tryd.prog 58 #[pt s a o] w fun e w' => e = .returned (.bool false) ∧ Below w.heap.size w w' := by
  go_enter Tryd.func58, Tryd.ntmps58
  go_wp2
  go_ret
  exact ⟨rfl, (by repeat (first | exact Below.refl _ _ | refine below_drewN ?_ _ | refine Below.drew ?_ | refine Below.setCell ?_ (by simp <;> omega) _ | refine Below.alloc ?_ (by simp <;> omega) _))⟩

theorem refRight_3 (s a o : Int) (w : World) (h0 : 0 ≤ s) (h6 : s ≤ 6) (h : a < -2) :
    Calls Tryd.prog 58 #[pt s a o] w fun e w' => e = .returned (.bool false) ∧ Below w.heap.size w w' := by
  go_enter Tryd.func58, Tryd.ntmps58
  go_wp2
  go_ret
  exact ⟨rfl, (by repeat (first | exact Below.refl _ _ | refine below_drewN ?_ _ | refine Below.drew ?_ | refine Below.setCell ?_ (by simp <;> omega) _ | refine Below.alloc ?_ (by simp <;> omega) _))⟩

theorem refRight_4 (s a o : Int) (w : World) (h0 : 0 ≤ s) (h6 : s ≤ 6) (a0 : -2 ≤ a) (h : 2 < a) :
    Calls Tryd.prog 58 #[pt s a o] w fun e w' => e = .returned (.bool false) ∧ Below w.heap.size w w' := by
  go_enter Tryd.func58, Tryd.ntmps58
  go_wp2
  go_ret
  exact ⟨rfl, (by repeat (first | exact Below.refl _ _ | refine below_drewN ?_ _ | refine Below.drew ?_ | refine Below.setCell ?_ (by simp <;> omega) _ | refine Below.alloc ?_ (by simp <;> omega) _))⟩

theorem refRight_5 (s a o : Int) (w : World) (h0 : 0 ≤ s) (h6 : s ≤ 6) (a0 : -2 ≤ a) (a2 : a ≤ 2) (h : o < -1) :
    Calls Tryd.prog 58 #[pt s a o] w fun e w' => e = .returned (.bool false) ∧ Below w.heap.size w w' := by
  go_enter Tryd.func58, Tryd.ntmps58
  go_wp2
  go_ret
  exact ⟨rfl, (by repeat (first | exact Below.refl _ _ | refine below_drewN ?_ _ | refine Below.drew ?_ | refine Below.setCell ?_ (by simp <;> omega) _ | refine Below.alloc ?_ (by simp <;> omega) _))⟩

theorem refRight_6 (s a o : Int) (w : World) (h0 : 0 ≤ s) (h6 : s ≤ 6) (a0 : -2 ≤ a) (a2 : a ≤ 2) (o0 : -1 ≤ o) (h : 9 < o) :
    Calls Tryd.prog 58 #[pt s a o] w fun e w' => e = .returned (.bool false) ∧ Below w.heap.size w w' := by
  go_enter Tryd.func58, Tryd.ntmps58
  go_wp2
  go_ret
  exact ⟨rfl, (by repeat (first | exact Below.refl _ _ | refine below_drewN ?_ _ | refine Below.drew ?_ | refine Below.setCell ?_ (by simp <;> omega) _ | refine Below.alloc ?_ (by simp <;> omega) _))⟩

theorem refRight_7 (s a o : Int) (w : World) (h0 : 0 ≤ s) (h6 : s ≤ 6) (a0 : -2 ≤ a) (a2 : a ≤ 2) (o0 : -1 ≤ o) (o9 : o ≤ 9) (v N : Int) (HV : Hid (Pit.hv s = v)) (hN : IntKind.i64.wrap (IntKind.i64.wrap (IntKind.i64.wrap (12 * IntKind.i64.wrap (o + 1)) + v) + a) = N) (h : N < 0) :
    Calls Tryd.prog 58 #[pt s a o] w fun e w' => e = .returned (.bool false) ∧ Below w.heap.size w w' := by
  have hB0 : Below w.heap.size w w := Below.refl _ _
  go_enter Tryd.func58, Tryd.ntmps58
  go_wp2_with fail
  have hs1 : Below w.heap.size w (w.alloc (.cells #[.int .i64 s, .int .i64 a, .int .i64 o] 42)) := by repeat (first | exact Below.refl _ _ | refine Below.alloc ?_ (by simp <;> omega) _)
  have c_p_0 : (w.alloc (.cells #[.int .i64 s, .int .i64 a, .int .i64 o] 42)).cell? ⟨w.heap.size, 0, none⟩ = some (.int .i64 s) := by go_simp
  have c_p_1 : (w.alloc (.cells #[.int .i64 s, .int .i64 a, .int .i64 o] 42)).cell? ⟨w.heap.size, 1, none⟩ = some (.int .i64 a) := by go_simp
  have c_p_2 : (w.alloc (.cells #[.int .i64 s, .int .i64 a, .int .i64 o] 42)).cell? ⟨w.heap.size, 2, none⟩ = some (.int .i64 o) := by go_simp
  have hB1 := below_two hB0 hs1
  clear hB0 hs1
  generalize (w.alloc (.cells #[.int .i64 s, .int .i64 a, .int .i64 o] 42)) = w1 at *
  have z_p := World.block_lt_of_cell? _ _ c_p_0
  go_region_held3 (fun w' => w'.cell? ⟨w.heap.size, 0, none⟩ = some (.int .i64 s) ∧ w'.cell? ⟨w.heap.size, 1, none⟩ = some (.int .i64 a) ∧ w'.cell? ⟨w.heap.size, 2, none⟩ = some (.int .i64 o) ∧ Below w.heap.size w w')
    (((try go_split_ands); refine ⟨?_, ?_, ?_, ?_⟩ <;> first | with_reducible assumption | (with_reducible refine cell_later hq ?_; with_reducible assumption) | (with_reducible refine below_two ?_ hq; with_reducible assumption) | with_reducible exact cell_drew c_p_0 | with_reducible exact cell_drew c_p_1 | with_reducible exact cell_drew c_p_2 | with_reducible exact hB1.drew))
    (first
      | (go_at_call 59; refine (half_any _ _ h0 h6).mono ?_; rintro e w2 ⟨rfl, rfl⟩; rw [HV.out]))
  rename_i hS
  clear c_p_0 c_p_1 c_p_2 hB1 z_p
  obtain ⟨c_p_0, c_p_1, c_p_2, hB2⟩ := hS
  have z_p := World.block_lt_of_cell? _ _ c_p_0
  go_wp2
  go_ret
  exact ⟨rfl, hB2⟩

theorem refRight_8 (s a o : Int) (w : World) (h0 : 0 ≤ s) (h6 : s ≤ 6) (a0 : -2 ≤ a) (a2 : a ≤ 2) (o0 : -1 ≤ o) (o9 : o ≤ 9) (v N : Int) (HV : Hid (Pit.hv s = v)) (hN : IntKind.i64.wrap (IntKind.i64.wrap (IntKind.i64.wrap (12 * IntKind.i64.wrap (o + 1)) + v) + a) = N) (h1 : 0 ≤ N) (h : 127 < N) :
    Calls Tryd.prog 58 #[pt s a o] w fun e w' => e = .returned (.bool false) ∧ Below w.heap.size w w' := by
  have hB0 : Below w.heap.size w w := Below.refl _ _
  go_enter Tryd.func58, Tryd.ntmps58
  go_wp2_with fail
  have hs1 : Below w.heap.size w (w.alloc (.cells #[.int .i64 s, .int .i64 a, .int .i64 o] 42)) := by repeat (first | exact Below.refl _ _ | refine Below.alloc ?_ (by simp <;> omega) _)
  have c_p_0 : (w.alloc (.cells #[.int .i64 s, .int .i64 a, .int .i64 o] 42)).cell? ⟨w.heap.size, 0, none⟩ = some (.int .i64 s) := by go_simp
  have c_p_1 : (w.alloc (.cells #[.int .i64 s, .int .i64 a, .int .i64 o] 42)).cell? ⟨w.heap.size, 1, none⟩ = some (.int .i64 a) := by go_simp
  have c_p_2 : (w.alloc (.cells #[.int .i64 s, .int .i64 a, .int .i64 o] 42)).cell? ⟨w.heap.size, 2, none⟩ = some (.int .i64 o) := by go_simp
  have hB1 := below_two hB0 hs1
  clear hB0 hs1
  generalize (w.alloc (.cells #[.int .i64 s, .int .i64 a, .int .i64 o] 42)) = w1 at *
  have z_p := World.block_lt_of_cell? _ _ c_p_0
  go_region_held3 (fun w' => w'.cell? ⟨w.heap.size, 0, none⟩ = some (.int .i64 s) ∧ w'.cell? ⟨w.heap.size, 1, none⟩ = some (.int .i64 a) ∧ w'.cell? ⟨w.heap.size, 2, none⟩ = some (.int .i64 o) ∧ Below w.heap.size w w')
    (((try go_split_ands); refine ⟨?_, ?_, ?_, ?_⟩ <;> first | with_reducible assumption | (with_reducible refine cell_later hq ?_; with_reducible assumption) | (with_reducible refine below_two ?_ hq; with_reducible assumption) | with_reducible exact cell_drew c_p_0 | with_reducible exact cell_drew c_p_1 | with_reducible exact cell_drew c_p_2 | with_reducible exact hB1.drew))
    (first
      | (go_at_call 59; refine (half_any _ _ h0 h6).mono ?_; rintro e w2 ⟨rfl, rfl⟩; rw [HV.out]))
  rename_i hS
  clear c_p_0 c_p_1 c_p_2 hB1 z_p
  obtain ⟨c_p_0, c_p_1, c_p_2, hB2⟩ := hS
  have z_p := World.block_lt_of_cell? _ _ c_p_0
  go_wp2
  go_ret
  exact ⟨ret_bool (decide_eq_false (by omega)), hB2⟩

theorem refRight_9 (s a o : Int) (w : World) (h0 : 0 ≤ s) (h6 : s ≤ 6) (a0 : -2 ≤ a) (a2 : a ≤ 2) (o0 : -1 ≤ o) (o9 : o ≤ 9) (v N : Int) (HV : Hid (Pit.hv s = v)) (hN : IntKind.i64.wrap (IntKind.i64.wrap (IntKind.i64.wrap (12 * IntKind.i64.wrap (o + 1)) + v) + a) = N) (h1 : 0 ≤ N) (h : N ≤ 127) :
    Calls Tryd.prog 58 #[pt s a o] w fun e w' => e = .returned (.bool true) ∧ Below w.heap.size w w' := by
  have hB0 : Below w.heap.size w w := Below.refl _ _
  go_enter Tryd.func58, Tryd.ntmps58
  go_wp2_with fail
  have hs1 : Below w.heap.size w (w.alloc (.cells #[.int .i64 s, .int .i64 a, .int .i64 o] 42)) := by repeat (first | exact Below.refl _ _ | refine Below.alloc ?_ (by simp <;> omega) _)
  have c_p_0 : (w.alloc (.cells #[.int .i64 s, .int .i64 a, .int .i64 o] 42)).cell? ⟨w.heap.size, 0, none⟩ = some (.int .i64 s) := by go_simp
  have c_p_1 : (w.alloc (.cells #[.int .i64 s, .int .i64 a, .int .i64 o] 42)).cell? ⟨w.heap.size, 1, none⟩ = some (.int .i64 a) := by go_simp
  have c_p_2 : (w.alloc (.cells #[.int .i64 s, .int .i64 a, .int .i64 o] 42)).cell? ⟨w.heap.size, 2, none⟩ = some (.int .i64 o) := by go_simp
  have hB1 := below_two hB0 hs1
  clear hB0 hs1
  generalize (w.alloc (.cells #[.int .i64 s, .int .i64 a, .int .i64 o] 42)) = w1 at *
  have z_p := World.block_lt_of_cell? _ _ c_p_0
  go_region_held3 (fun w' => w'.cell? ⟨w.heap.size, 0, none⟩ = some (.int .i64 s) ∧ w'.cell? ⟨w.heap.size, 1, none⟩ = some (.int .i64 a) ∧ w'.cell? ⟨w.heap.size, 2, none⟩ = some (.int .i64 o) ∧ Below w.heap.size w w')
    (((try go_split_ands); refine ⟨?_, ?_, ?_, ?_⟩ <;> first | with_reducible assumption | (with_reducible refine cell_later hq ?_; with_reducible assumption) | (with_reducible refine below_two ?_ hq; with_reducible assumption) | with_reducible exact cell_drew c_p_0 | with_reducible exact cell_drew c_p_1 | with_reducible exact cell_drew c_p_2 | with_reducible exact hB1.drew))
    (first
      | (go_at_call 59; refine (half_any _ _ h0 h6).mono ?_; rintro e w2 ⟨rfl, rfl⟩; rw [HV.out]))
  rename_i hS
  clear c_p_0 c_p_1 c_p_2 hB1 z_p
  obtain ⟨c_p_0, c_p_1, c_p_2, hB2⟩ := hS
  have z_p := World.block_lt_of_cell? _ _ c_p_0
  go_wp2
  go_ret
  exact ⟨rfl, hB2⟩

theorem refRight_any (s a o : Int) (w : World) :
    Calls Tryd.prog 58 #[pt s a o] w fun e w' => e = .returned (.bool (Pit.right s a o)) ∧ Below w.heap.size w w' := by
  by_cases h1 : s < 0
  · rw [Pit.right_false fun h => by have := h.s0; omega]; exact refRight_1 s a o w h1
  by_cases h2 : 6 < s
  · rw [Pit.right_false fun h => by have := h.s6; omega]; exact refRight_2 s a o w (by omega) h2
  by_cases h3 : a < -2
  · rw [Pit.right_false fun h => by have := h.a0; omega]; exact refRight_3 s a o w (by omega) (by omega) h3
  by_cases h4 : 2 < a
  · rw [Pit.right_false fun h => by have := h.a2; omega]; exact refRight_4 s a o w (by omega) (by omega) (by omega) h4
  by_cases h5 : o < -1
  · rw [Pit.right_false fun h => by have := h.o0; omega]; exact refRight_5 s a o w (by omega) (by omega) (by omega) (by omega) h5
  by_cases h6 : 9 < o
  · rw [Pit.right_false fun h => by have := h.o9; omega]; exact refRight_6 s a o w (by omega) (by omega) (by omega) (by omega) (by omega) h6
  have hv : -20 ≤ Pit.hv s ∧ Pit.hv s ≤ 20 := by rcases Pit.hv_cases s with ⟨_, e⟩ | ⟨_, e⟩ <;> omega
  have hN : IntKind.i64.wrap (IntKind.i64.wrap (IntKind.i64.wrap (12 * IntKind.i64.wrap (o + 1)) + Pit.hv s) + a) = Pit.num s a o := by
    rw [IntWalk.i64_in (o + 1) (by omega), IntWalk.i64_in (12 * (o + 1)) (by omega), IntWalk.i64_in (12 * (o + 1) + Pit.hv s) (by omega), IntWalk.i64_in _ (by omega)]
    rfl
  by_cases h7 : Pit.num s a o < 0
  · rw [Pit.right_false fun h => by have := h.n0; omega]
    exact refRight_7 s a o w (by omega) (by omega) (by omega) (by omega) (by omega) (by omega) _ _ (Lib.hid rfl) hN h7
  by_cases h8 : 127 < Pit.num s a o
  · rw [Pit.right_false fun h => by have := h.nM; omega]
    exact refRight_8 s a o w (by omega) (by omega) (by omega) (by omega) (by omega) (by omega) _ _ (Lib.hid rfl) hN (by omega) h8
  · rw [Pit.right_true ⟨by omega, by omega, by omega, by omega, by omega, by omega, by omega, by omega⟩]
    exact refRight_9 s a o w (by omega) (by omega) (by omega) (by omega) (by omega) (by omega) _ _ (Lib.hid rfl) hN (by omega) (by omega)

theorem refNumber_no (s a o : Int) (w : World) (h : Pit.right s a o = false) :
    Calls Tryd.prog 44 #[pt s a o] w fun e w' => e = .returned (.tuple #[.int .i64 0, .int .i64 20]) ∧ Below w.heap.size w w' := by
  have hB0 : Below w.heap.size w w := Below.refl _ _
  go_enter Tryd.func44, Tryd.ntmps44
  go_wp2_with fail
  refine (refRight_any _ _ _ _).mono ?_
  rintro e w1 ⟨rfl, hb1⟩
  have hs1 : Below w.heap.size w w1 := Below.trans (by repeat (first | exact Below.refl _ _ | refine Below.alloc ?_ (by simp <;> omega) _)) (hb1.mono (by simp <;> omega))
  have hB1 := below_two hB0 hs1
  clear hB0 hs1 hb1
  rw [h]
  go_wp2
  go_ret2
  exact ⟨rfl, hB1⟩

theorem refNumber_yes (s a o : Int) (w : World) (h : Pit.IsRight s a o) (hr : Pit.right s a o = true) (v N : Int) (HV : Hid (Pit.hv s = v)) (hN : IntKind.i64.wrap (IntKind.i64.wrap (IntKind.i64.wrap (12 * IntKind.i64.wrap (o + 1)) + v) + a) = N) :
    Calls Tryd.prog 44 #[pt s a o] w fun e w' => e = .returned (.tuple #[.int .i64 N, .int .i64 0]) ∧ Below w.heap.size w w' := by
  have hB0 : Below w.heap.size w w := Below.refl _ _
  go_enter Tryd.func44, Tryd.ntmps44
  go_wp2_with fail
  refine (refRight_any _ _ _ _).mono ?_
  rintro e w1 ⟨rfl, hb1⟩
  have hs1 : Below w.heap.size w w1 := Below.trans (by repeat (first | exact Below.refl _ _ | refine Below.alloc ?_ (by simp <;> omega) _)) (hb1.mono (by simp <;> omega))
  have c_p_0 : w1.cell? ⟨w.heap.size, 0, none⟩ = some (.int .i64 s) := (hb1.cell (by simp <;> omega)).trans (by go_simp)
  have c_p_1 : w1.cell? ⟨w.heap.size, 1, none⟩ = some (.int .i64 a) := (hb1.cell (by simp <;> omega)).trans (by go_simp)
  have c_p_2 : w1.cell? ⟨w.heap.size, 2, none⟩ = some (.int .i64 o) := (hb1.cell (by simp <;> omega)).trans (by go_simp)
  have z_p := World.block_lt_of_cell? _ _ c_p_0
  have hB1 := below_two hB0 hs1
  clear hB0 hs1 hb1
  rw [hr]
  go_wp2_with fail
  go_region_held3 (fun w' => w'.cell? ⟨w.heap.size, 0, none⟩ = some (.int .i64 s) ∧ w'.cell? ⟨w.heap.size, 1, none⟩ = some (.int .i64 a) ∧ w'.cell? ⟨w.heap.size, 2, none⟩ = some (.int .i64 o) ∧ Below w.heap.size w w')
    (((try go_split_ands); refine ⟨?_, ?_, ?_, ?_⟩ <;> first | with_reducible assumption | (with_reducible refine cell_later hq ?_; with_reducible assumption) | (with_reducible refine below_two ?_ hq; with_reducible assumption) | with_reducible exact cell_drew c_p_0 | with_reducible exact cell_drew c_p_1 | with_reducible exact cell_drew c_p_2 | with_reducible exact hB1.drew))
    (first
      | (go_at_call 59; refine (half_any _ _ h.s0 h.s6).mono ?_; rintro e w2 ⟨rfl, rfl⟩; rw [HV.out]))
  rename_i hS
  clear c_p_0 c_p_1 c_p_2 hB1 z_p
  obtain ⟨c_p_0, c_p_1, c_p_2, hB2⟩ := hS
  have z_p := World.block_lt_of_cell? _ _ c_p_0
  go_wp2
  go_ret2
  exact ⟨rfl, hB2⟩

theorem refNumber_any (s a o : Int) (w : World) :
    Calls Tryd.prog 44 #[pt s a o] w fun e w' => e = .returned (.tuple #[.int .i64 (onlyR (Pit.right s a o) (Pit.num s a o)), .int .i64 (errP (Pit.right s a o))]) ∧ Below w.heap.size w w' := by
  cases hr : Pit.right s a o with
  | false => exact refNumber_no s a o w hr
  | true =>
    have h := (Pit.right_iff _ _ _).1 hr
    obtain ⟨h0, h1, h2, h3, h4, h5, -⟩ := h.all
    have hv : -20 ≤ Pit.hv s ∧ Pit.hv s ≤ 20 := by rcases Pit.hv_cases s with ⟨_, e⟩ | ⟨_, e⟩ <;> omega
    have hN : IntKind.i64.wrap (IntKind.i64.wrap (IntKind.i64.wrap (12 * IntKind.i64.wrap (o + 1)) + Pit.hv s) + a) = Pit.num s a o := by
      rw [IntWalk.i64_in (o + 1) (by omega), IntWalk.i64_in (12 * (o + 1)) (by omega), IntWalk.i64_in (12 * (o + 1) + Pit.hv s) (by omega), IntWalk.i64_in _ (by omega)]
      rfl
    exact refNumber_yes s a o w h hr _ _ (Lib.hid rfl) hN

namespace Key
/-- Does the pitch of a place, in an octave, have that number? -/
def isN (n p o : Int) : Bool := Pit.right (st p) (al p) o && Pit.num (st p) (al p) o == n
theorem isN_iff (n p o : Int) : isN n p o = true ↔ Pit.right (st p) (al p) o = true ∧ Pit.num (st p) (al p) o = n := by unfold isN; rw [Bool.and_eq_true, beq_iff_eq]
theorem spell_found {f n p o : Int} (h0 : -7 ≤ f) (h7 : f ≤ 7) (n0 : 0 ≤ n) (n1 : n ≤ 127) (p0 : f - 5 ≤ p) (p1 : p ≤ f + 6) (h : isN n p o = true) : spell f n = some (st p, al p, o) := by
  obtain ⟨hr, hn⟩ := (isN_iff n p o).1 h
  obtain ⟨q, hq⟩ := cls_some h0 h7 n0 n1
  have hN := nm_eq (p := p) (by omega) (by omega)
  have hd : n - nm p = 12 * (o - 4) := by rw [hN, ← hn]; simp only [Pit.num_eq]; omega
  have hh : hit n p = true := by unfold hit; rw [hd, Int.mul_tmod_right]; rfl
  have hm : p ∈ places (f - 5) 12 := by
    unfold places upto
    exact List.mem_map.2 ⟨(p - (f - 5)).toNat, List.mem_range.2 (by omega), by omega⟩
  have e := hit_one h0 h7 n0 n1 hq hm hh
  subst e
  have ho : 4 + (n - nm p).tdiv 12 = o := by rw [hd, Int.mul_tdiv_cancel_left _ (by decide)]; omega
  unfold spell
  rw [hq]
  show spOf n p = _
  unfold spOf
  rw [ho, if_pos hr]
theorem spell_lost {f n : Int} (h0 : -7 ≤ f) (h7 : f ≤ 7) (h : ∀ k : Nat, k < 12 → ∀ o : Int, -3 ≤ o → o < 12 → isN n (f - 5 + (k : Int)) o = false) : spell f n = none := by
  cases hs : spell f n with
  | none => rfl
  | some x =>
    exfalso
    obtain ⟨s, a, o⟩ := x
    obtain ⟨hR, hN⟩ := spell_num h0 h7 hs
    unfold spell at hs
    cases hc : cls f n with
    | none => rw [hc] at hs; cases hs
    | some p =>
      rw [hc] at hs
      obtain ⟨_, b0, b1⟩ := cls_hit hc
      change spOf n p = some (s, a, o) at hs
      unfold spOf at hs
      split at hs
      · simp only [Option.some.injEq, Prod.mk.injEq] at hs
        obtain ⟨rfl, rfl, rfl⟩ := hs
        have o0 := hR.o0
        have o9 := hR.o9
        have := h (p - (f - 5)).toNat (by omega) _ (show -3 ≤ 4 + (n - nm p).tdiv 12 by omega) (by omega)
        rw [show f - 5 + (((p - (f - 5)).toNat : Nat) : Int) = p by omega] at this
        rw [(isN_iff _ _ _).2 ⟨Pit.right_true hR, hN⟩] at this
        cases this
      · cases hs
end Key

set_option maxRecDepth 100000 in
set_option maxHeartbeats 4000000 in
theorem refSpell_no (f : Int) (m : Bool) (n : Int) (w : World) (h : Key.okF f = false) :
    Calls Tryd.prog 30 #[ky f m, .int .i64 n] w fun e w' => e = .returned (pv 0 0 0 30) ∧ Below w.heap.size w w' := by
  have hB0 : Below w.heap.size w w := Below.refl _ _
  go_enter Tryd.func30, Tryd.ntmps30
  go_wp2_with fail
  refine (krefRight_no m _ h).mono ?_
  rintro e w1 ⟨rfl, hb1⟩
  have hs1 : Below w.heap.size w w1 := Below.trans (by repeat (first | exact Below.refl _ _ | refine Below.alloc ?_ (by simp <;> omega) _)) (hb1.mono (by simp <;> omega))
  have c_k_0 : w1.cell? ⟨w.heap.size, 0, none⟩ = some (.int .i64 f) := (hb1.cell (by simp <;> omega)).trans (by go_simp)
  have c_k_1 : w1.cell? ⟨w.heap.size, 1, none⟩ = some (.bool m) := (hb1.cell (by simp <;> omega)).trans (by go_simp)
  have c_r_0 : w1.cell? ⟨w.heap.size + 1, 0, none⟩ = some (.int .i64 0) := (hb1.cell (by simp <;> omega)).trans (by go_simp)
  have f_r_0 : w1.frozen? ⟨w.heap.size + 1, 0, none⟩ = false := (hb1.frozen (by simp <;> omega)).trans (by go_simp)
  have c_r_1 : w1.cell? ⟨w.heap.size + 1, 1, none⟩ = some (.int .i64 0) := (hb1.cell (by simp <;> omega)).trans (by go_simp)
  have f_r_1 : w1.frozen? ⟨w.heap.size + 1, 1, none⟩ = false := (hb1.frozen (by simp <;> omega)).trans (by go_simp)
  have c_r_2 : w1.cell? ⟨w.heap.size + 1, 2, none⟩ = some (.int .i64 0) := (hb1.cell (by simp <;> omega)).trans (by go_simp)
  have f_r_2 : w1.frozen? ⟨w.heap.size + 1, 2, none⟩ = false := (hb1.frozen (by simp <;> omega)).trans (by go_simp)
  have z_k := World.block_lt_of_cell? _ _ c_k_0
  have z_r := World.block_lt_of_cell? _ _ c_r_0
  have hB1 := below_two hB0 hs1
  clear hB0 hs1 hb1
  obtain ⟨m0, m1, m2⟩ := put3_of (x := .int .i64 0) (y := .int .i64 0) (z := .int .i64 0) c_r_0 c_r_1 c_r_2
  go_wp2
  exact bodyPost_ret (v := .tuple #[.agg #[.int .i64 0, .int .i64 0, .int .i64 0], .int .i64 30]) (by simp [results, Tryd.results30, go_sem, m0, m1, m2]) rfl ⟨rfl, put3_below hB1 (by omega)⟩

set_option maxRecDepth 100000 in
set_option maxHeartbeats 4000000 in
theorem refSpell_no1 (f : Int) (m : Bool) (n : Int) (w : World) (h : Key.okF f = true) (hn : n < 0) :
    Calls Tryd.prog 30 #[ky f m, .int .i64 n] w fun e w' => e = .returned (pv 0 0 0 2) ∧ Below w.heap.size w w' := by
  have hB0 : Below w.heap.size w w := Below.refl _ _
  go_enter Tryd.func30, Tryd.ntmps30
  go_wp2_with fail
  refine (krefRight_yes m _ h).mono ?_
  rintro e w1 ⟨rfl, hb1⟩
  have hs1 : Below w.heap.size w w1 := Below.trans (by repeat (first | exact Below.refl _ _ | refine Below.alloc ?_ (by simp <;> omega) _)) (hb1.mono (by simp <;> omega))
  have c_k_0 : w1.cell? ⟨w.heap.size, 0, none⟩ = some (.int .i64 f) := (hb1.cell (by simp <;> omega)).trans (by go_simp)
  have c_k_1 : w1.cell? ⟨w.heap.size, 1, none⟩ = some (.bool m) := (hb1.cell (by simp <;> omega)).trans (by go_simp)
  have c_r_0 : w1.cell? ⟨w.heap.size + 1, 0, none⟩ = some (.int .i64 0) := (hb1.cell (by simp <;> omega)).trans (by go_simp)
  have f_r_0 : w1.frozen? ⟨w.heap.size + 1, 0, none⟩ = false := (hb1.frozen (by simp <;> omega)).trans (by go_simp)
  have c_r_1 : w1.cell? ⟨w.heap.size + 1, 1, none⟩ = some (.int .i64 0) := (hb1.cell (by simp <;> omega)).trans (by go_simp)
  have f_r_1 : w1.frozen? ⟨w.heap.size + 1, 1, none⟩ = false := (hb1.frozen (by simp <;> omega)).trans (by go_simp)
  have c_r_2 : w1.cell? ⟨w.heap.size + 1, 2, none⟩ = some (.int .i64 0) := (hb1.cell (by simp <;> omega)).trans (by go_simp)
  have f_r_2 : w1.frozen? ⟨w.heap.size + 1, 2, none⟩ = false := (hb1.frozen (by simp <;> omega)).trans (by go_simp)
  have z_k := World.block_lt_of_cell? _ _ c_k_0
  have z_r := World.block_lt_of_cell? _ _ c_r_0
  have hB1 := below_two hB0 hs1
  clear hB0 hs1 hb1
  obtain ⟨m0, m1, m2⟩ := put3_of (x := .int .i64 0) (y := .int .i64 0) (z := .int .i64 0) c_r_0 c_r_1 c_r_2
  go_wp2
  exact bodyPost_ret (v := .tuple #[.agg #[.int .i64 0, .int .i64 0, .int .i64 0], .int .i64 2]) (by simp [results, Tryd.results30, go_sem, m0, m1, m2]) rfl ⟨rfl, put3_below hB1 (by omega)⟩

set_option maxRecDepth 100000 in
set_option maxHeartbeats 4000000 in
theorem refSpell_no2 (f : Int) (m : Bool) (n : Int) (w : World) (h : Key.okF f = true) (n0 : ¬ n < 0) (hn : 127 < n) :
    Calls Tryd.prog 30 #[ky f m, .int .i64 n] w fun e w' => e = .returned (pv 0 0 0 2) ∧ Below w.heap.size w w' := by
  have hB0 : Below w.heap.size w w := Below.refl _ _
  go_enter Tryd.func30, Tryd.ntmps30
  go_wp2_with fail
  refine (krefRight_yes m _ h).mono ?_
  rintro e w1 ⟨rfl, hb1⟩
  have hs1 : Below w.heap.size w w1 := Below.trans (by repeat (first | exact Below.refl _ _ | refine Below.alloc ?_ (by simp <;> omega) _)) (hb1.mono (by simp <;> omega))
  have c_k_0 : w1.cell? ⟨w.heap.size, 0, none⟩ = some (.int .i64 f) := (hb1.cell (by simp <;> omega)).trans (by go_simp)
  have c_k_1 : w1.cell? ⟨w.heap.size, 1, none⟩ = some (.bool m) := (hb1.cell (by simp <;> omega)).trans (by go_simp)
  have c_r_0 : w1.cell? ⟨w.heap.size + 1, 0, none⟩ = some (.int .i64 0) := (hb1.cell (by simp <;> omega)).trans (by go_simp)
  have f_r_0 : w1.frozen? ⟨w.heap.size + 1, 0, none⟩ = false := (hb1.frozen (by simp <;> omega)).trans (by go_simp)
  have c_r_1 : w1.cell? ⟨w.heap.size + 1, 1, none⟩ = some (.int .i64 0) := (hb1.cell (by simp <;> omega)).trans (by go_simp)
  have f_r_1 : w1.frozen? ⟨w.heap.size + 1, 1, none⟩ = false := (hb1.frozen (by simp <;> omega)).trans (by go_simp)
  have c_r_2 : w1.cell? ⟨w.heap.size + 1, 2, none⟩ = some (.int .i64 0) := (hb1.cell (by simp <;> omega)).trans (by go_simp)
  have f_r_2 : w1.frozen? ⟨w.heap.size + 1, 2, none⟩ = false := (hb1.frozen (by simp <;> omega)).trans (by go_simp)
  have z_k := World.block_lt_of_cell? _ _ c_k_0
  have z_r := World.block_lt_of_cell? _ _ c_r_0
  have hB1 := below_two hB0 hs1
  clear hB0 hs1 hb1
  obtain ⟨m0, m1, m2⟩ := put3_of (x := .int .i64 0) (y := .int .i64 0) (z := .int .i64 0) c_r_0 c_r_1 c_r_2
  go_wp2
  exact bodyPost_ret (v := .tuple #[.agg #[.int .i64 0, .int .i64 0, .int .i64 0], .int .i64 2]) (by simp [results, Tryd.results30, go_sem, m0, m1, m2]) rfl ⟨rfl, put3_below hB1 (by omega)⟩

/-- Nothing was found at the places ahead of the k-th, and in the octaves ahead of o at the k-th. -/
def SpNone (f n : Int) (k : Nat) : Prop := ∀ j : Nat, j < k → ∀ o : Int, -3 ≤ o → o < 12 → Key.isN n (f - 5 + (j : Int)) o = false
def SpPart (n p o : Int) : Prop := ∀ q : Int, -3 ≤ q → q < o → Key.isN n p q = false
def spV (x : Option (Int × Int × Int)) : Value := match x with | some x => pv x.1 x.2.1 x.2.2 0 | none => pv 0 0 0 20
/-- The key's and the result's variables. -/
structure SpMem (f : Int) (m : Bool) (w wr : World) : Prop where
  k0 : wr.cell? ⟨w.heap.size, 0, none⟩ = some (.int .i64 f)
  k1 : wr.cell? ⟨w.heap.size, 1, none⟩ = some (.bool m)
  c0 : wr.cell? ⟨w.heap.size + 1, 0, none⟩ = some (.int .i64 0)
  c1 : wr.cell? ⟨w.heap.size + 1, 1, none⟩ = some (.int .i64 0)
  c2 : wr.cell? ⟨w.heap.size + 1, 2, none⟩ = some (.int .i64 0)
  g0 : wr.frozen? ⟨w.heap.size + 1, 0, none⟩ = false
  g1 : wr.frozen? ⟨w.heap.size + 1, 1, none⟩ = false
  g2 : wr.frozen? ⟨w.heap.size + 1, 2, none⟩ = false
  below : Below w.heap.size w wr
theorem SpMem.later {f : Int} {m : Bool} {w wr wx : World} (h : SpMem f m w wr) (hb : Below wr.heap.size wr wx) : SpMem f m w wx :=
  ⟨cell_later hb h.k0, cell_later hb h.k1, cell_later hb h.c0, cell_later hb h.c1, cell_later hb h.c2, frozen_later hb h.c0 h.g0, frozen_later hb h.c1 h.g1, frozen_later hb h.c2 h.g2, below_two h.below hb⟩
def SpOut (f : Int) (m : Bool) (n : Int) (w : World) (a : Value) (wr : World) : Prop := ∃ k : Nat, ∃ p : Int, k ≤ 12 ∧ a = .int .i64 p ∧ Hid (f - 5 + (k : Int) = p) ∧ Hid (SpNone f n k) ∧ SpMem f m w wr
def SpIn (f : Int) (m : Bool) (n p : Int) (w : World) (a : Value) (wr : World) : Prop := ∃ o : Int, a = .int .i64 o ∧ -3 ≤ o ∧ o ≤ 12 ∧ Hid (SpPart n p o) ∧ SpMem f m w wr

set_option maxRecDepth 100000 in
set_option maxHeartbeats 4000000 in
theorem refSpell_yes (f : Int) (m : Bool) (n : Int) (w : World) (h0 : -7 ≤ f) (h7 : f ≤ 7) (n0 : 0 ≤ n) (n1 : n ≤ 127) :
    Calls Tryd.prog 30 #[ky f m, .int .i64 n] w fun e w' => e = .returned (spV (Key.spell f n)) ∧ Below w.heap.size w w' := by
  have hB0 : Below w.heap.size w w := Below.refl _ _
  go_enter Tryd.func30, Tryd.ntmps30
  go_wp2_with fail
  refine (krefRight_yes m _ (Key.okF_true h0 h7)).mono ?_
  rintro e w1 ⟨rfl, hb1⟩
  have hs1 : Below w.heap.size w w1 := Below.trans (by repeat (first | exact Below.refl _ _ | refine Below.alloc ?_ (by simp <;> omega) _)) (hb1.mono (by simp <;> omega))
  have c_k_0 : w1.cell? ⟨w.heap.size, 0, none⟩ = some (.int .i64 f) := (hb1.cell (by simp <;> omega)).trans (by go_simp)
  have c_k_1 : w1.cell? ⟨w.heap.size, 1, none⟩ = some (.bool m) := (hb1.cell (by simp <;> omega)).trans (by go_simp)
  have c_r_0 : w1.cell? ⟨w.heap.size + 1, 0, none⟩ = some (.int .i64 0) := (hb1.cell (by simp <;> omega)).trans (by go_simp)
  have f_r_0 : w1.frozen? ⟨w.heap.size + 1, 0, none⟩ = false := (hb1.frozen (by simp <;> omega)).trans (by go_simp)
  have c_r_1 : w1.cell? ⟨w.heap.size + 1, 1, none⟩ = some (.int .i64 0) := (hb1.cell (by simp <;> omega)).trans (by go_simp)
  have f_r_1 : w1.frozen? ⟨w.heap.size + 1, 1, none⟩ = false := (hb1.frozen (by simp <;> omega)).trans (by go_simp)
  have c_r_2 : w1.cell? ⟨w.heap.size + 1, 2, none⟩ = some (.int .i64 0) := (hb1.cell (by simp <;> omega)).trans (by go_simp)
  have f_r_2 : w1.frozen? ⟨w.heap.size + 1, 2, none⟩ = false := (hb1.frozen (by simp <;> omega)).trans (by go_simp)
  have z_k := World.block_lt_of_cell? _ _ c_k_0
  have z_r := World.block_lt_of_cell? _ _ c_r_0
  have hB1 := below_two hB0 hs1
  clear hB0 hs1 hb1
  have hM : SpMem f m w w1 := ⟨c_k_0, c_k_1, c_r_0, c_r_1, c_r_2, f_r_0, f_r_1, f_r_2, hB1⟩
  go_wp2
  go_loopw [6] (fun a wr => SpOut f m n w a wr) (fun a _ => (f + 7 - intOf a).toNat)
  case atStart => exact ⟨0, f - 5, by omega, rfl, Lib.hid (by simp), Lib.hid (fun j hj => by omega), hM⟩
  case round =>
    clear c_k_0 c_k_1 c_r_0 c_r_1 c_r_2 f_r_0 f_r_1 f_r_2 hB1 z_k z_r hM
    obtain ⟨k, p, hk, rfl, HP, HN, hM⟩ := hrel
    have p0 : -12 ≤ p := by have := HP.out; omega
    have p1 : p ≤ f + 7 := by have := HP.out; omega
    have ck := hM.k0
    by_cases hp : p ≤ f + 6
    · have HK : Hid (k < 12) := Lib.hid (by have := HP.out; omega)
      go_wp2
      go_loopw [7] (fun a wr => SpIn f m n p w a wr) (fun a _ => (12 - intOf a).toNat)
      case atStart => exact ⟨-3, rfl, by omega, by omega, Lib.hid (fun q h1 h2 => by omega), hM⟩
      case round =>
        clear ck hM
        obtain ⟨o, rfl, o0, o1, HO, hM⟩ := hrel
        by_cases ho : o < 12
        · go_wp2_with fail
          refine (refStep_any p _ (by omega) (by omega)).mono ?_
          rintro e w3 ⟨rfl, rfl⟩
          go_wp2_with fail
          refine (refSign_any p _ (by omega) (by omega)).mono ?_
          rintro e w3 ⟨rfl, rfl⟩
          obtain ⟨x, HX⟩ : ∃ x, Hid (Key.st p = x) := ⟨_, Lib.hid rfl⟩
          obtain ⟨y, HY⟩ : ∃ y, Hid (Key.al p = y) := ⟨_, Lib.hid rfl⟩
          rw [HX.out, HY.out]
          go_wp2_with fail
          have hM2 : SpMem f m w (wr.alloc (.cells #[.int .i64 x, .int .i64 y, .int .i64 o] 42)) := hM.later ((Below.refl _ _).alloc (Nat.le_refl _) _)
          refine (refNumber_any _ _ _ _).mono ?_
          rintro e w4 ⟨rfl, hb⟩
          have q0 : w4.cell? ⟨wr.heap.size, 0, none⟩ = some (.int .i64 x) := (hb.cell (by simp <;> omega)).trans (by go_simp)
          have q1 : w4.cell? ⟨wr.heap.size, 1, none⟩ = some (.int .i64 y) := (hb.cell (by simp <;> omega)).trans (by go_simp)
          have q2 : w4.cell? ⟨wr.heap.size, 2, none⟩ = some (.int .i64 o) := (hb.cell (by simp <;> omega)).trans (by go_simp)
          have hM4 := hM2.later hb
          clear hb hM hM2
          have HB : Hid (Key.isN n p o = (Pit.right x y o && Pit.num x y o == n)) := Lib.hid (by rw [← HX.out, ← HY.out]; rfl)
          cases hr : Pit.right x y o with
          | false =>
            simp only [onlyR, errP, if_false, Bool.false_eq_true]
            have HF : Hid (Key.isN n p o = false) := Lib.hid (by rw [HB.out, hr]; rfl)
            clear HB hr
            go_wp2
            go_roundw
            case rel => exact ⟨o + 1, rfl, by omega, by omega, Lib.hid (fun q h1 h2 => by by_cases e : q = o; exact e ▸ HF.out; exact HO.out q h1 (by omega)), hM4⟩
            case measure => simp [intOf]; omega
          | true =>
            simp only [onlyR, errP, if_true]
            by_cases hn : Pit.num x y o = n
            · have HF : Hid (Key.isN n p o = true) := Lib.hid (by rw [HB.out, hr, hn]; simp)
              rw [hn]
              have HQ := Lib.hid (And.intro hr hn)
              clear HB hr hn
              obtain ⟨k0, k1, c_r_0, c_r_1, c_r_2, g0, g1, g2, hB⟩ := hM4
              clear k0 k1
              obtain ⟨m0, m1, m2⟩ := put3_of (x := .int .i64 x) (y := .int .i64 y) (z := .int .i64 o) c_r_0 c_r_1 c_r_2
              go_wp2
              have hv : Key.spell f n = some (x, y, o) := by rw [← HX.out, ← HY.out]; exact Key.spell_found h0 h7 n0 n1 (by have := HP.out; omega) (by omega) HF.out
              rw [hv]
              exact bodyPost_ret (v := .tuple #[.agg #[.int .i64 x, .int .i64 y, .int .i64 o], .int .i64 0]) (by simp [results, Tryd.results30, go_sem, m0, m1, m2]) rfl ⟨rfl, put3_below hB (by omega)⟩
            · have HF : Hid (Key.isN n p o = false) := Lib.hid (by rw [HB.out, hr]; simpa using hn)
              have hE : (Pit.num x y o == n) = false := by simpa using hn
              clear HB hr hn
              generalize Pit.num x y o = N at *
              go_wp2
              go_roundw
              case rel => exact ⟨o + 1, rfl, by omega, by omega, Lib.hid (fun q h1 h2 => by by_cases e : q = o; exact e ▸ HF.out; exact HO.out q h1 (by omega)), hM4⟩
              case measure => simp [intOf]; omega
        · obtain rfl : o = 12 := by omega
          go_wp2
          go_roundw
          case rel => exact ⟨k + 1, p + 1, by have := HK.out; omega, rfl, Lib.hid (by have := HP.out; omega), Lib.hid (fun j hj q h1 h2 => by by_cases e : j = k; (subst e; rw [HP.out]; exact HO.out q h1 h2); exact HN.out j (by omega) q h1 h2), hM⟩
          case measure => simp [intOf]; omega
    · obtain rfl : k = 12 := by have := HP.out; omega
      obtain ⟨k0, k1, c_r_0, c_r_1, c_r_2, g0, g1, g2, hB⟩ := hM
      obtain ⟨m0, m1, m2⟩ := put3_of (x := .int .i64 0) (y := .int .i64 0) (z := .int .i64 0) c_r_0 c_r_1 c_r_2
      go_wp2
      have hv : Key.spell f n = none := Key.spell_lost h0 h7 HN.out
      rw [hv]
      exact bodyPost_ret (v := .tuple #[.agg #[.int .i64 0, .int .i64 0, .int .i64 0], .int .i64 20]) (by simp [results, Tryd.results30, go_sem, m0, m1, m2]) rfl ⟨rfl, put3_below hB (by omega)⟩

theorem refSpell_any (f : Int) (m : Bool) (n : Int) (w : World) :
    Calls Tryd.prog 30 #[ky f m, .int .i64 n] w fun e w' => e = .returned (pv (Key.spE f n).1 (Key.spE f n).2.1 (Key.spE f n).2.2 (Key.eSp f n)) ∧ Below w.heap.size w w' := by
  unfold Key.spE Key.eSp
  cases hf : Key.okF f
  · exact refSpell_no f m n w hf
  · obtain ⟨h0, h7⟩ := (Key.okF_iff f).1 hf
    by_cases a1 : n < 0
    · rw [show decide (0 ≤ n ∧ n ≤ 127) = false from decide_eq_false (by omega)]
      exact refSpell_no1 f m n w hf a1
    · by_cases a2 : 127 < n
      · rw [show decide (0 ≤ n ∧ n ≤ 127) = false from decide_eq_false (by omega)]
        exact refSpell_no2 f m n w hf a1 a2
      · rw [show decide (0 ≤ n ∧ n ≤ 127) = true from decide_eq_true (by omega)]
        have h := refSpell_yes f m n w h0 h7 (by omega) (by omega)
        cases hs : Key.spell f n with
        | none => rw [hs] at h; exact h
        | some x => rw [hs] at h; exact h
end Go.Proofs.YtahcbgngdpjhkaaDoor
