/-
  The contracts of the reference's Number, Line, Between, Compare.
-/
import Derived.Test.YtoopchnncjfjoaaDoorPitB
import Derived.Test.YtoopchnncjfjoaaDoorPitH
namespace Go.Proofs.YtoopchnncjfjoaaDoor
open Go.RowKit

set_option maxRecDepth 100000 in
set_option maxHeartbeats 4000000 in
theorem refNumber_no (s a o : Int) (w : World) (h : Pit.right s a o = false) :
    Calls Tryd.prog 15 #[pt s a o] w fun e w' => e = .returned (.tuple #[.int .i64 0, .int .i64 20]) ∧ Below w.heap.size w w' := by
  have hB0 : Below w.heap.size w w := Below.refl _ _
  go_enter Tryd.func15, Tryd.ntmps15
  go_wp2_with fail
  refine (refRight_any _ _ _ _).mono ?_
  rintro e w1 ⟨rfl, hb1⟩
  have hs1 : Below w.heap.size w w1 := Below.trans (by repeat (first | exact Below.refl _ _ | refine Below.alloc ?_ (by simp <;> omega) _)) (hb1.mono (by simp <;> omega))
  have hB1 := below_two hB0 hs1
  clear hB0 hs1 hb1
  rw [h]
  go_wp2
  go_ret2
  exact ⟨rfl, hB1⟩

set_option maxRecDepth 100000 in
set_option maxHeartbeats 4000000 in
theorem refLine_no (s a o : Int) (w : World) (h : Pit.right s a o = false) :
    Calls Tryd.prog 17 #[pt s a o] w fun e w' => e = .returned (.tuple #[.int .i64 0, .int .i64 20]) ∧ Below w.heap.size w w' := by
  have hB0 : Below w.heap.size w w := Below.refl _ _
  go_enter Tryd.func17, Tryd.ntmps17
  go_wp2_with fail
  refine (refRight_any _ _ _ _).mono ?_
  rintro e w1 ⟨rfl, hb1⟩
  have hs1 : Below w.heap.size w w1 := Below.trans (by repeat (first | exact Below.refl _ _ | refine Below.alloc ?_ (by simp <;> omega) _)) (hb1.mono (by simp <;> omega))
  have hB1 := below_two hB0 hs1
  clear hB0 hs1 hb1
  rw [h]
  go_wp2
  go_ret2
  exact ⟨rfl, hB1⟩

set_option maxRecDepth 100000 in
set_option maxHeartbeats 4000000 in
theorem refNumber_yes (s a o : Int) (w : World) (h : Pit.IsRight s a o) (hr : Pit.right s a o = true) (v N : Int) (HV : Hid (Pit.hv s = v)) (hN : IntKind.i64.wrap (IntKind.i64.wrap (IntKind.i64.wrap (12 * IntKind.i64.wrap (o + 1)) + v) + a) = N) :
    Calls Tryd.prog 15 #[pt s a o] w fun e w' => e = .returned (.tuple #[.int .i64 N, .int .i64 0]) ∧ Below w.heap.size w w' := by
  have hB0 : Below w.heap.size w w := Below.refl _ _
  go_enter Tryd.func15, Tryd.ntmps15
  go_wp2_with fail
  refine (refRight_any _ _ _ _).mono ?_
  rintro e w1 ⟨rfl, hb1⟩
  have hs1 : Below w.heap.size w w1 := Below.trans (by repeat (first | exact Below.refl _ _ | refine Below.alloc ?_ (by simp <;> omega) _)) (hb1.mono (by simp <;> omega))
  have c_p_0 : w1.cell? ⟨w.heap.size, 0, none⟩ = some (.int .i64 s) := (hb1.cell (by simp <;> omega)).trans (by go_simp)
  have c_p_1 : w1.cell? ⟨w.heap.size, 1, none⟩ = some (.int .i64 a) := (hb1.cell (by simp <;> omega)).trans (by go_simp)
  have c_p_2 : w1.cell? ⟨w.heap.size, 2, none⟩ = some (.int .i64 o) := (hb1.cell (by simp <;> omega)).trans (by go_simp)
  have z_p := World.block_lt_of_cell? _ _ c_p_0
  have hB1 := below_two hB0 hs1
  clear hB0 hs1 hb1
  rw [hr]
  go_wp2_with fail
  go_region_held3 (fun w' => w'.cell? ⟨w.heap.size, 0, none⟩ = some (.int .i64 s) ∧ w'.cell? ⟨w.heap.size, 1, none⟩ = some (.int .i64 a) ∧ w'.cell? ⟨w.heap.size, 2, none⟩ = some (.int .i64 o) ∧ Below w.heap.size w w')
    (((try go_split_ands); refine ⟨?_, ?_, ?_, ?_⟩ <;> first | with_reducible assumption | (with_reducible refine cell_later hq ?_; with_reducible assumption) | (with_reducible refine below_two ?_ hq; with_reducible assumption) | with_reducible exact cell_drew c_p_0 | with_reducible exact cell_drew c_p_1 | with_reducible exact cell_drew c_p_2 | with_reducible exact hB1.drew))
    (first
      | (go_at_call 32; refine (half_any _ _ h.s0 h.s6).mono ?_; rintro e w2 ⟨rfl, rfl⟩; rw [HV.out]))
  rename_i hS
  clear c_p_0 c_p_1 c_p_2 hB1 z_p
  obtain ⟨c_p_0, c_p_1, c_p_2, hB2⟩ := hS
  have z_p := World.block_lt_of_cell? _ _ c_p_0
  go_wp2
  go_ret2
  exact ⟨rfl, hB2⟩

set_option maxRecDepth 100000 in
set_option maxHeartbeats 4000000 in
theorem refLine_yes (s a o : Int) (w : World) (hr : Pit.right s a o = true) (b0 : 0 ≤ s) (b1 : s ≤ 6) (b2 : -1 ≤ o) (b3 : o ≤ 9) :
    Calls Tryd.prog 17 #[pt s a o] w fun e w' => e = .returned (.tuple #[.int .i64 (7 * o + s), .int .i64 0]) ∧ Below w.heap.size w w' := by
  have hB0 : Below w.heap.size w w := Below.refl _ _
  go_enter Tryd.func17, Tryd.ntmps17
  go_wp2_with fail
  refine (refRight_any _ _ _ _).mono ?_
  rintro e w1 ⟨rfl, hb1⟩
  have hs1 : Below w.heap.size w w1 := Below.trans (by repeat (first | exact Below.refl _ _ | refine Below.alloc ?_ (by simp <;> omega) _)) (hb1.mono (by simp <;> omega))
  have c_p_0 : w1.cell? ⟨w.heap.size, 0, none⟩ = some (.int .i64 s) := (hb1.cell (by simp <;> omega)).trans (by go_simp)
  have c_p_1 : w1.cell? ⟨w.heap.size, 1, none⟩ = some (.int .i64 a) := (hb1.cell (by simp <;> omega)).trans (by go_simp)
  have c_p_2 : w1.cell? ⟨w.heap.size, 2, none⟩ = some (.int .i64 o) := (hb1.cell (by simp <;> omega)).trans (by go_simp)
  have z_p := World.block_lt_of_cell? _ _ c_p_0
  have hB1 := below_two hB0 hs1
  clear hB0 hs1 hb1
  rw [hr]
  go_wp2
  go_ret2
  exact ⟨rfl, hB1⟩

theorem refNumber_any (s a o : Int) (w : World) :
    Calls Tryd.prog 15 #[pt s a o] w fun e w' => e = .returned (.tuple #[.int .i64 (onlyR (Pit.right s a o) (Pit.num s a o)), .int .i64 (errP (Pit.right s a o))]) ∧ Below w.heap.size w w' := by
  cases hr : Pit.right s a o with
  | false => exact refNumber_no s a o w hr
  | true =>
    have h := (Pit.right_iff _ _ _).1 hr
    obtain ⟨h0, h1, h2, h3, h4, h5, -⟩ := h.all
    have hv : -20 ≤ Pit.hv s ∧ Pit.hv s ≤ 20 := by rcases Pit.hv_cases s with ⟨_, e⟩ | ⟨_, e⟩ <;> omega
    have hN : IntKind.i64.wrap (IntKind.i64.wrap (IntKind.i64.wrap (12 * IntKind.i64.wrap (o + 1)) + Pit.hv s) + a) = Pit.num s a o := by
      rw [IntWalk.i64_in (o + 1) (by omega), IntWalk.i64_in (12 * (o + 1)) (by omega), IntWalk.i64_in (12 * (o + 1) + Pit.hv s) (by omega), IntWalk.i64_in _ (by omega)]
      rfl
    exact refNumber_yes s a o w h hr _ _ (Lib.hid rfl) hN
theorem refLine_any (s a o : Int) (w : World) :
    Calls Tryd.prog 17 #[pt s a o] w fun e w' => e = .returned (.tuple #[.int .i64 (onlyR (Pit.right s a o) (Pit.lin s o)), .int .i64 (errP (Pit.right s a o))]) ∧ Below w.heap.size w w' := by
  cases hr : Pit.right s a o with
  | false => exact refLine_no s a o w hr
  | true =>
    have h := (Pit.right_iff _ _ _).1 hr
    exact refLine_yes s a o w hr h.s0 h.s6 h.o0 h.o9

set_option maxRecDepth 100000 in
set_option maxHeartbeats 4000000 in
theorem refBetween_no1 (s a o t b p : Int) (w : World) (HP : Hid (Pit.right s a o = false)) (HQ : Hid (Pit.right t b p = false)) :
    Calls Tryd.prog 26 #[pt s a o, pt t b p] w fun e w' => e = .returned (.tuple #[iv 0 0, .int .i64 20]) ∧ Below w.heap.size w w' := by
  have hB0 : Below w.heap.size w w := Below.refl _ _
  go_enter Tryd.func26, Tryd.ntmps26
  go_wp2_with fail
  refine (refLine_any _ _ _ _).mono ?_
  rintro e w1 ⟨rfl, hb1⟩
  have hs1 : Below w.heap.size w w1 := Below.trans (by repeat (first | exact Below.refl _ _ | refine Below.alloc ?_ (by simp <;> omega) _)) (hb1.mono (by simp <;> omega))
  have c_a_0 : w1.cell? ⟨w.heap.size, 0, none⟩ = some (.int .i64 s) := (hb1.cell (by simp <;> omega)).trans (by go_simp)
  have c_a_1 : w1.cell? ⟨w.heap.size, 1, none⟩ = some (.int .i64 a) := (hb1.cell (by simp <;> omega)).trans (by go_simp)
  have c_a_2 : w1.cell? ⟨w.heap.size, 2, none⟩ = some (.int .i64 o) := (hb1.cell (by simp <;> omega)).trans (by go_simp)
  have c_b_0 : w1.cell? ⟨w.heap.size + 1, 0, none⟩ = some (.int .i64 t) := (hb1.cell (by simp <;> omega)).trans (by go_simp)
  have c_b_1 : w1.cell? ⟨w.heap.size + 1, 1, none⟩ = some (.int .i64 b) := (hb1.cell (by simp <;> omega)).trans (by go_simp)
  have c_b_2 : w1.cell? ⟨w.heap.size + 1, 2, none⟩ = some (.int .i64 p) := (hb1.cell (by simp <;> omega)).trans (by go_simp)
  have c_r_0 : w1.cell? ⟨w.heap.size + 1 + 1, 0, none⟩ = some (.int .i64 0) := (hb1.cell (by simp <;> omega)).trans (by go_simp)
  have f_r_0 : w1.frozen? ⟨w.heap.size + 1 + 1, 0, none⟩ = false := (hb1.frozen (by simp <;> omega)).trans (by go_simp)
  have c_r_1 : w1.cell? ⟨w.heap.size + 1 + 1, 1, none⟩ = some (.int .i64 0) := (hb1.cell (by simp <;> omega)).trans (by go_simp)
  have f_r_1 : w1.frozen? ⟨w.heap.size + 1 + 1, 1, none⟩ = false := (hb1.frozen (by simp <;> omega)).trans (by go_simp)
  have z_a := World.block_lt_of_cell? _ _ c_a_0
  have z_b := World.block_lt_of_cell? _ _ c_b_0
  have z_r := World.block_lt_of_cell? _ _ c_r_0
  have hB1 := below_two hB0 hs1
  clear hB0 hs1 hb1
  rw [HP.out]
  simp only [onlyR, errP, if_false, Bool.false_eq_true]
  go_wp2_with fail
  refine (refLine_any _ _ _ _).mono ?_
  rintro e w2 ⟨rfl, hb2⟩
  have hs2 := hb2
  clear c_a_0
  clear c_a_1
  clear c_a_2
  clear c_b_0
  clear c_b_1
  clear c_b_2
  replace f_r_0 := frozen_later hs2 c_r_0 f_r_0
  replace c_r_0 := cell_later hs2 c_r_0
  replace f_r_1 := frozen_later hs2 c_r_1 f_r_1
  replace c_r_1 := cell_later hs2 c_r_1
  clear z_r
  have z_r := World.block_lt_of_cell? _ _ c_r_0
  clear z_a
  clear z_b
  have hB2 := below_two hB1 hs2
  clear hB1 hs2
  rw [HQ.out]
  simp only [onlyR, errP, if_false, Bool.false_eq_true]
  obtain ⟨m0, m1⟩ := put2_of (x := .int .i64 0) (y := .int .i64 0) c_r_0 c_r_1
  go_wp2
  exact bodyPost_ret (v := .tuple #[.agg #[.int .i64 0, .int .i64 0], .int .i64 20]) (by simp [results, Tryd.results26, go_sem, m0, m1]) rfl ⟨rfl, put2_below hB2 (by omega)⟩

set_option maxRecDepth 100000 in
set_option maxHeartbeats 4000000 in
theorem refBetween_no1b (s a o t b p : Int) (w : World) (HP : Hid (Pit.right s a o = false)) (HQ : Hid (Pit.right t b p = true)) (y : Int) (HY : Hid (Pit.lin t p = y)) :
    Calls Tryd.prog 26 #[pt s a o, pt t b p] w fun e w' => e = .returned (.tuple #[iv 0 0, .int .i64 20]) ∧ Below w.heap.size w w' := by
  have hB0 : Below w.heap.size w w := Below.refl _ _
  go_enter Tryd.func26, Tryd.ntmps26
  go_wp2_with fail
  refine (refLine_any _ _ _ _).mono ?_
  rintro e w1 ⟨rfl, hb1⟩
  have hs1 : Below w.heap.size w w1 := Below.trans (by repeat (first | exact Below.refl _ _ | refine Below.alloc ?_ (by simp <;> omega) _)) (hb1.mono (by simp <;> omega))
  have c_a_0 : w1.cell? ⟨w.heap.size, 0, none⟩ = some (.int .i64 s) := (hb1.cell (by simp <;> omega)).trans (by go_simp)
  have c_a_1 : w1.cell? ⟨w.heap.size, 1, none⟩ = some (.int .i64 a) := (hb1.cell (by simp <;> omega)).trans (by go_simp)
  have c_a_2 : w1.cell? ⟨w.heap.size, 2, none⟩ = some (.int .i64 o) := (hb1.cell (by simp <;> omega)).trans (by go_simp)
  have c_b_0 : w1.cell? ⟨w.heap.size + 1, 0, none⟩ = some (.int .i64 t) := (hb1.cell (by simp <;> omega)).trans (by go_simp)
  have c_b_1 : w1.cell? ⟨w.heap.size + 1, 1, none⟩ = some (.int .i64 b) := (hb1.cell (by simp <;> omega)).trans (by go_simp)
  have c_b_2 : w1.cell? ⟨w.heap.size + 1, 2, none⟩ = some (.int .i64 p) := (hb1.cell (by simp <;> omega)).trans (by go_simp)
  have c_r_0 : w1.cell? ⟨w.heap.size + 1 + 1, 0, none⟩ = some (.int .i64 0) := (hb1.cell (by simp <;> omega)).trans (by go_simp)
  have f_r_0 : w1.frozen? ⟨w.heap.size + 1 + 1, 0, none⟩ = false := (hb1.frozen (by simp <;> omega)).trans (by go_simp)
  have c_r_1 : w1.cell? ⟨w.heap.size + 1 + 1, 1, none⟩ = some (.int .i64 0) := (hb1.cell (by simp <;> omega)).trans (by go_simp)
  have f_r_1 : w1.frozen? ⟨w.heap.size + 1 + 1, 1, none⟩ = false := (hb1.frozen (by simp <;> omega)).trans (by go_simp)
  have z_a := World.block_lt_of_cell? _ _ c_a_0
  have z_b := World.block_lt_of_cell? _ _ c_b_0
  have z_r := World.block_lt_of_cell? _ _ c_r_0
  have hB1 := below_two hB0 hs1
  clear hB0 hs1 hb1
  rw [HP.out]
  simp only [onlyR, errP, if_false, Bool.false_eq_true]
  go_wp2_with fail
  refine (refLine_any _ _ _ _).mono ?_
  rintro e w2 ⟨rfl, hb2⟩
  have hs2 := hb2
  clear c_a_0
  clear c_a_1
  clear c_a_2
  clear c_b_0
  clear c_b_1
  clear c_b_2
  replace f_r_0 := frozen_later hs2 c_r_0 f_r_0
  replace c_r_0 := cell_later hs2 c_r_0
  replace f_r_1 := frozen_later hs2 c_r_1 f_r_1
  replace c_r_1 := cell_later hs2 c_r_1
  clear z_r
  have z_r := World.block_lt_of_cell? _ _ c_r_0
  clear z_a
  clear z_b
  have hB2 := below_two hB1 hs2
  clear hB1 hs2
  rw [HQ.out, HY.out]
  simp only [onlyR, errP, if_true]
  obtain ⟨m0, m1⟩ := put2_of (x := .int .i64 0) (y := .int .i64 0) c_r_0 c_r_1
  go_wp2
  exact bodyPost_ret (v := .tuple #[.agg #[.int .i64 0, .int .i64 0], .int .i64 20]) (by simp [results, Tryd.results26, go_sem, m0, m1]) rfl ⟨rfl, put2_below hB2 (by omega)⟩

set_option maxRecDepth 100000 in
set_option maxHeartbeats 4000000 in
theorem refBetween_no2 (s a o t b p : Int) (w : World) (HP : Hid (Pit.right s a o = true)) (HQ : Hid (Pit.right t b p = false)) (x : Int) (HX : Hid (Pit.lin s o = x)) :
    Calls Tryd.prog 26 #[pt s a o, pt t b p] w fun e w' => e = .returned (.tuple #[iv 0 0, .int .i64 20]) ∧ Below w.heap.size w w' := by
  have hB0 : Below w.heap.size w w := Below.refl _ _
  go_enter Tryd.func26, Tryd.ntmps26
  go_wp2_with fail
  refine (refLine_any _ _ _ _).mono ?_
  rintro e w1 ⟨rfl, hb1⟩
  have hs1 : Below w.heap.size w w1 := Below.trans (by repeat (first | exact Below.refl _ _ | refine Below.alloc ?_ (by simp <;> omega) _)) (hb1.mono (by simp <;> omega))
  have c_a_0 : w1.cell? ⟨w.heap.size, 0, none⟩ = some (.int .i64 s) := (hb1.cell (by simp <;> omega)).trans (by go_simp)
  have c_a_1 : w1.cell? ⟨w.heap.size, 1, none⟩ = some (.int .i64 a) := (hb1.cell (by simp <;> omega)).trans (by go_simp)
  have c_a_2 : w1.cell? ⟨w.heap.size, 2, none⟩ = some (.int .i64 o) := (hb1.cell (by simp <;> omega)).trans (by go_simp)
  have c_b_0 : w1.cell? ⟨w.heap.size + 1, 0, none⟩ = some (.int .i64 t) := (hb1.cell (by simp <;> omega)).trans (by go_simp)
  have c_b_1 : w1.cell? ⟨w.heap.size + 1, 1, none⟩ = some (.int .i64 b) := (hb1.cell (by simp <;> omega)).trans (by go_simp)
  have c_b_2 : w1.cell? ⟨w.heap.size + 1, 2, none⟩ = some (.int .i64 p) := (hb1.cell (by simp <;> omega)).trans (by go_simp)
  have c_r_0 : w1.cell? ⟨w.heap.size + 1 + 1, 0, none⟩ = some (.int .i64 0) := (hb1.cell (by simp <;> omega)).trans (by go_simp)
  have f_r_0 : w1.frozen? ⟨w.heap.size + 1 + 1, 0, none⟩ = false := (hb1.frozen (by simp <;> omega)).trans (by go_simp)
  have c_r_1 : w1.cell? ⟨w.heap.size + 1 + 1, 1, none⟩ = some (.int .i64 0) := (hb1.cell (by simp <;> omega)).trans (by go_simp)
  have f_r_1 : w1.frozen? ⟨w.heap.size + 1 + 1, 1, none⟩ = false := (hb1.frozen (by simp <;> omega)).trans (by go_simp)
  have z_a := World.block_lt_of_cell? _ _ c_a_0
  have z_b := World.block_lt_of_cell? _ _ c_b_0
  have z_r := World.block_lt_of_cell? _ _ c_r_0
  have hB1 := below_two hB0 hs1
  clear hB0 hs1 hb1
  rw [HP.out, HX.out]
  simp only [onlyR, errP, if_true]
  go_wp2_with fail
  refine (refLine_any _ _ _ _).mono ?_
  rintro e w2 ⟨rfl, hb2⟩
  have hs2 := hb2
  clear c_a_0
  clear c_a_1
  clear c_a_2
  clear c_b_0
  clear c_b_1
  clear c_b_2
  replace f_r_0 := frozen_later hs2 c_r_0 f_r_0
  replace c_r_0 := cell_later hs2 c_r_0
  replace f_r_1 := frozen_later hs2 c_r_1 f_r_1
  replace c_r_1 := cell_later hs2 c_r_1
  clear z_r
  have z_r := World.block_lt_of_cell? _ _ c_r_0
  clear z_a
  clear z_b
  have hB2 := below_two hB1 hs2
  clear hB1 hs2
  rw [HQ.out]
  simp only [onlyR, errP, if_false, Bool.false_eq_true]
  obtain ⟨m0, m1⟩ := put2_of (x := .int .i64 0) (y := .int .i64 0) c_r_0 c_r_1
  go_wp2
  exact bodyPost_ret (v := .tuple #[.agg #[.int .i64 0, .int .i64 0], .int .i64 20]) (by simp [results, Tryd.results26, go_sem, m0, m1]) rfl ⟨rfl, put2_below hB2 (by omega)⟩

set_option maxRecDepth 100000 in
set_option maxHeartbeats 4000000 in
theorem refBetween_yes (s a o t b p : Int) (w : World) (x y m n : Int) (HP : Hid (Pit.right s a o = true)) (HQ : Hid (Pit.right t b p = true)) (HX : Hid (Pit.lin s o = x)) (HY : Hid (Pit.lin t p = y)) (HM : Hid (Pit.num s a o = m)) (HN : Hid (Pit.num t b p = n)) (x0 : -7 ≤ x) (x1 : x ≤ 69) (y0 : -7 ≤ y) (y1 : y ≤ 69) (m0' : 0 ≤ m) (m1' : m ≤ 127) (n0 : 0 ≤ n) (n1 : n ≤ 127) :
    Calls Tryd.prog 26 #[pt s a o, pt t b p] w fun e w' => e = .returned (.tuple #[iv (y - x) (n - m), .int .i64 0]) ∧ Below w.heap.size w w' := by
  have hB0 : Below w.heap.size w w := Below.refl _ _
  go_enter Tryd.func26, Tryd.ntmps26
  go_wp2_with fail
  refine (refLine_any _ _ _ _).mono ?_
  rintro e w1 ⟨rfl, hb1⟩
  have hs1 : Below w.heap.size w w1 := Below.trans (by repeat (first | exact Below.refl _ _ | refine Below.alloc ?_ (by simp <;> omega) _)) (hb1.mono (by simp <;> omega))
  have c_a_0 : w1.cell? ⟨w.heap.size, 0, none⟩ = some (.int .i64 s) := (hb1.cell (by simp <;> omega)).trans (by go_simp)
  have c_a_1 : w1.cell? ⟨w.heap.size, 1, none⟩ = some (.int .i64 a) := (hb1.cell (by simp <;> omega)).trans (by go_simp)
  have c_a_2 : w1.cell? ⟨w.heap.size, 2, none⟩ = some (.int .i64 o) := (hb1.cell (by simp <;> omega)).trans (by go_simp)
  have c_b_0 : w1.cell? ⟨w.heap.size + 1, 0, none⟩ = some (.int .i64 t) := (hb1.cell (by simp <;> omega)).trans (by go_simp)
  have c_b_1 : w1.cell? ⟨w.heap.size + 1, 1, none⟩ = some (.int .i64 b) := (hb1.cell (by simp <;> omega)).trans (by go_simp)
  have c_b_2 : w1.cell? ⟨w.heap.size + 1, 2, none⟩ = some (.int .i64 p) := (hb1.cell (by simp <;> omega)).trans (by go_simp)
  have c_r_0 : w1.cell? ⟨w.heap.size + 1 + 1, 0, none⟩ = some (.int .i64 0) := (hb1.cell (by simp <;> omega)).trans (by go_simp)
  have f_r_0 : w1.frozen? ⟨w.heap.size + 1 + 1, 0, none⟩ = false := (hb1.frozen (by simp <;> omega)).trans (by go_simp)
  have c_r_1 : w1.cell? ⟨w.heap.size + 1 + 1, 1, none⟩ = some (.int .i64 0) := (hb1.cell (by simp <;> omega)).trans (by go_simp)
  have f_r_1 : w1.frozen? ⟨w.heap.size + 1 + 1, 1, none⟩ = false := (hb1.frozen (by simp <;> omega)).trans (by go_simp)
  have z_a := World.block_lt_of_cell? _ _ c_a_0
  have z_b := World.block_lt_of_cell? _ _ c_b_0
  have z_r := World.block_lt_of_cell? _ _ c_r_0
  have hB1 := below_two hB0 hs1
  clear hB0 hs1 hb1
  rw [HP.out, HX.out]
  simp only [onlyR, errP, if_true]
  go_wp2_with fail
  refine (refLine_any _ _ _ _).mono ?_
  rintro e w2 ⟨rfl, hb2⟩
  have hs2 := hb2
  replace c_a_0 := cell_later hs2 c_a_0
  replace c_a_1 := cell_later hs2 c_a_1
  replace c_a_2 := cell_later hs2 c_a_2
  replace c_b_0 := cell_later hs2 c_b_0
  replace c_b_1 := cell_later hs2 c_b_1
  replace c_b_2 := cell_later hs2 c_b_2
  replace f_r_0 := frozen_later hs2 c_r_0 f_r_0
  replace c_r_0 := cell_later hs2 c_r_0
  replace f_r_1 := frozen_later hs2 c_r_1 f_r_1
  replace c_r_1 := cell_later hs2 c_r_1
  clear z_a
  have z_a := World.block_lt_of_cell? _ _ c_a_0
  clear z_b
  have z_b := World.block_lt_of_cell? _ _ c_b_0
  clear z_r
  have z_r := World.block_lt_of_cell? _ _ c_r_0
  have hB2 := below_two hB1 hs2
  clear hB1 hs2
  rw [HQ.out, HY.out]
  simp only [onlyR, errP, if_true]
  go_wp2_with fail
  refine (refNumber_any _ _ _ _).mono ?_
  rintro e w3 ⟨rfl, hb3⟩
  have hs3 := hb3
  replace c_a_0 := cell_later hs3 c_a_0
  replace c_a_1 := cell_later hs3 c_a_1
  replace c_a_2 := cell_later hs3 c_a_2
  replace c_b_0 := cell_later hs3 c_b_0
  replace c_b_1 := cell_later hs3 c_b_1
  replace c_b_2 := cell_later hs3 c_b_2
  replace f_r_0 := frozen_later hs3 c_r_0 f_r_0
  replace c_r_0 := cell_later hs3 c_r_0
  replace f_r_1 := frozen_later hs3 c_r_1 f_r_1
  replace c_r_1 := cell_later hs3 c_r_1
  clear z_a
  have z_a := World.block_lt_of_cell? _ _ c_a_0
  clear z_b
  have z_b := World.block_lt_of_cell? _ _ c_b_0
  clear z_r
  have z_r := World.block_lt_of_cell? _ _ c_r_0
  have hB3 := below_two hB2 hs3
  clear hB2 hs3
  rw [HP.out, HM.out]
  simp only [onlyR, errP, if_true]
  go_wp2_with fail
  refine (refNumber_any _ _ _ _).mono ?_
  rintro e w4 ⟨rfl, hb4⟩
  have hs4 := hb4
  clear c_a_0
  clear c_a_1
  clear c_a_2
  clear c_b_0
  clear c_b_1
  clear c_b_2
  replace f_r_0 := frozen_later hs4 c_r_0 f_r_0
  replace c_r_0 := cell_later hs4 c_r_0
  replace f_r_1 := frozen_later hs4 c_r_1 f_r_1
  replace c_r_1 := cell_later hs4 c_r_1
  clear z_r
  have z_r := World.block_lt_of_cell? _ _ c_r_0
  clear z_a
  clear z_b
  have hB4 := below_two hB3 hs4
  clear hB3 hs4
  rw [HQ.out, HN.out]
  simp only [onlyR, errP, if_true]
  obtain ⟨m0, m1⟩ := put2_of (x := .int .i64 (y - x)) (y := .int .i64 (n - m)) c_r_0 c_r_1
  go_wp2
  exact bodyPost_ret (v := .tuple #[.agg #[.int .i64 (y - x), .int .i64 (n - m)], .int .i64 0]) (by simp [results, Tryd.results26, go_sem, m0, m1]) rfl ⟨rfl, put2_below hB4 (by omega)⟩

theorem refBetween_any (s a o t b p : Int) (w : World) :
    Calls Tryd.prog 26 #[pt s a o, pt t b p] w fun e w' => e = .returned (.tuple #[iv (btS (Pit.right s a o && Pit.right t b p) s o t p) (btH (Pit.right s a o && Pit.right t b p) s a o t b p), .int .i64 (errP (Pit.right s a o && Pit.right t b p))]) ∧ Below w.heap.size w w' := by
  cases h1 : Pit.right s a o
  · cases h2 : Pit.right t b p
    · exact refBetween_no1 s a o t b p w (Lib.hid h1) (Lib.hid h2)
    · exact refBetween_no1b s a o t b p w (Lib.hid h1) (Lib.hid h2) _ (Lib.hid rfl)
  · have r1 := (Pit.right_iff _ _ _).1 h1
    cases h2 : Pit.right t b p
    · exact refBetween_no2 s a o t b p w (Lib.hid h1) (Lib.hid h2) _ (Lib.hid rfl)
    · have r2 := (Pit.right_iff _ _ _).1 h2
      have l1 := lin_bounds r1
      have l2 := lin_bounds r2
      exact refBetween_yes s a o t b p w _ _ _ _ (Lib.hid h1) (Lib.hid h2) (Lib.hid rfl) (Lib.hid rfl) (Lib.hid rfl) (Lib.hid rfl) l1.1 l1.2 l2.1 l2.2 r1.n0 r1.nM r2.n0 r2.nM

set_option maxRecDepth 100000 in
set_option maxHeartbeats 4000000 in
theorem refCompare_no (s a o t b p : Int) (w : World) (HX : Hid (btS (Pit.right s a o && Pit.right t b p) s o t p = 0)) (HY : Hid (btH (Pit.right s a o && Pit.right t b p) s a o t b p = 0)) (HE : Hid (errP (Pit.right s a o && Pit.right t b p) = 20)) :
    Calls Tryd.prog 28 #[pt s a o, pt t b p] w fun e w' => e = .returned (.int .i64 0) ∧ Below w.heap.size w w' := by
  have hB0 : Below w.heap.size w w := Below.refl _ _
  go_enter Tryd.func28, Tryd.ntmps28
  go_wp2_with fail
  refine (refBetween_any _ _ _ _ _ _ _).mono ?_
  rintro e w1 ⟨rfl, hb1⟩
  have hs1 : Below w.heap.size w w1 := Below.trans (by repeat (first | exact Below.refl _ _ | refine Below.alloc ?_ (by simp <;> omega) _)) (hb1.mono (by simp <;> omega))
  have hB1 := below_two hB0 hs1
  clear hB0 hs1 hb1
  rw [HX.out, HY.out, HE.out]
  go_wp2
  go_ret
  exact ⟨rfl, (hB1.alloc hB1.size (.cells #[.int .i64 0, .int .i64 0] 25))⟩

set_option maxRecDepth 100000 in
set_option maxHeartbeats 4000000 in
theorem refCompare_1 (s a o t b p : Int) (w : World) (x y : Int) (hy : 0 < y) (HX : Hid (btS (Pit.right s a o && Pit.right t b p) s o t p = x)) (HY : Hid (btH (Pit.right s a o && Pit.right t b p) s a o t b p = y)) (HE : Hid (errP (Pit.right s a o && Pit.right t b p) = 0)) :
    Calls Tryd.prog 28 #[pt s a o, pt t b p] w fun e w' => e = .returned (.int .i64 (-1)) ∧ Below w.heap.size w w' := by
  have hB0 : Below w.heap.size w w := Below.refl _ _
  go_enter Tryd.func28, Tryd.ntmps28
  go_wp2_with fail
  refine (refBetween_any _ _ _ _ _ _ _).mono ?_
  rintro e w1 ⟨rfl, hb1⟩
  have hs1 : Below w.heap.size w w1 := Below.trans (by repeat (first | exact Below.refl _ _ | refine Below.alloc ?_ (by simp <;> omega) _)) (hb1.mono (by simp <;> omega))
  have hB1 := below_two hB0 hs1
  clear hB0 hs1 hb1
  rw [HX.out, HY.out, HE.out]
  go_wp2
  go_ret
  exact ⟨rfl, (hB1.alloc hB1.size (.cells #[.int .i64 x, .int .i64 y] 25))⟩

set_option maxRecDepth 100000 in
set_option maxHeartbeats 4000000 in
theorem refCompare_2 (s a o t b p : Int) (w : World) (x : Int) (hx : 0 < x) (HX : Hid (btS (Pit.right s a o && Pit.right t b p) s o t p = x)) (HY : Hid (btH (Pit.right s a o && Pit.right t b p) s a o t b p = 0)) (HE : Hid (errP (Pit.right s a o && Pit.right t b p) = 0)) :
    Calls Tryd.prog 28 #[pt s a o, pt t b p] w fun e w' => e = .returned (.int .i64 (-1)) ∧ Below w.heap.size w w' := by
  have hB0 : Below w.heap.size w w := Below.refl _ _
  go_enter Tryd.func28, Tryd.ntmps28
  go_wp2_with fail
  refine (refBetween_any _ _ _ _ _ _ _).mono ?_
  rintro e w1 ⟨rfl, hb1⟩
  have hs1 : Below w.heap.size w w1 := Below.trans (by repeat (first | exact Below.refl _ _ | refine Below.alloc ?_ (by simp <;> omega) _)) (hb1.mono (by simp <;> omega))
  have hB1 := below_two hB0 hs1
  clear hB0 hs1 hb1
  rw [HX.out, HY.out, HE.out]
  go_wp2
  go_ret
  exact ⟨rfl, (hB1.alloc hB1.size (.cells #[.int .i64 x, .int .i64 0] 25))⟩

set_option maxRecDepth 100000 in
set_option maxHeartbeats 4000000 in
theorem refCompare_3 (s a o t b p : Int) (w : World) (x y : Int) (hy : y < 0) (HX : Hid (btS (Pit.right s a o && Pit.right t b p) s o t p = x)) (HY : Hid (btH (Pit.right s a o && Pit.right t b p) s a o t b p = y)) (HE : Hid (errP (Pit.right s a o && Pit.right t b p) = 0)) :
    Calls Tryd.prog 28 #[pt s a o, pt t b p] w fun e w' => e = .returned (.int .i64 1) ∧ Below w.heap.size w w' := by
  have hB0 : Below w.heap.size w w := Below.refl _ _
  go_enter Tryd.func28, Tryd.ntmps28
  go_wp2_with fail
  refine (refBetween_any _ _ _ _ _ _ _).mono ?_
  rintro e w1 ⟨rfl, hb1⟩
  have hs1 : Below w.heap.size w w1 := Below.trans (by repeat (first | exact Below.refl _ _ | refine Below.alloc ?_ (by simp <;> omega) _)) (hb1.mono (by simp <;> omega))
  have hB1 := below_two hB0 hs1
  clear hB0 hs1 hb1
  rw [HX.out, HY.out, HE.out]
  go_wp2
  go_ret
  exact ⟨rfl, (hB1.alloc hB1.size (.cells #[.int .i64 x, .int .i64 y] 25))⟩

set_option maxRecDepth 100000 in
set_option maxHeartbeats 4000000 in
theorem refCompare_4 (s a o t b p : Int) (w : World) (x : Int) (hx : x < 0) (HX : Hid (btS (Pit.right s a o && Pit.right t b p) s o t p = x)) (HY : Hid (btH (Pit.right s a o && Pit.right t b p) s a o t b p = 0)) (HE : Hid (errP (Pit.right s a o && Pit.right t b p) = 0)) :
    Calls Tryd.prog 28 #[pt s a o, pt t b p] w fun e w' => e = .returned (.int .i64 1) ∧ Below w.heap.size w w' := by
  have hB0 : Below w.heap.size w w := Below.refl _ _
  go_enter Tryd.func28, Tryd.ntmps28
  go_wp2_with fail
  refine (refBetween_any _ _ _ _ _ _ _).mono ?_
  rintro e w1 ⟨rfl, hb1⟩
  have hs1 : Below w.heap.size w w1 := Below.trans (by repeat (first | exact Below.refl _ _ | refine Below.alloc ?_ (by simp <;> omega) _)) (hb1.mono (by simp <;> omega))
  have hB1 := below_two hB0 hs1
  clear hB0 hs1 hb1
  rw [HX.out, HY.out, HE.out]
  go_wp2
  go_ret
  exact ⟨rfl, (hB1.alloc hB1.size (.cells #[.int .i64 x, .int .i64 0] 25))⟩

set_option maxRecDepth 100000 in
set_option maxHeartbeats 4000000 in
theorem refCompare_5 (s a o t b p : Int) (w : World) (HX : Hid (btS (Pit.right s a o && Pit.right t b p) s o t p = 0)) (HY : Hid (btH (Pit.right s a o && Pit.right t b p) s a o t b p = 0)) (HE : Hid (errP (Pit.right s a o && Pit.right t b p) = 0)) :
    Calls Tryd.prog 28 #[pt s a o, pt t b p] w fun e w' => e = .returned (.int .i64 0) ∧ Below w.heap.size w w' := by
  have hB0 : Below w.heap.size w w := Below.refl _ _
  go_enter Tryd.func28, Tryd.ntmps28
  go_wp2_with fail
  refine (refBetween_any _ _ _ _ _ _ _).mono ?_
  rintro e w1 ⟨rfl, hb1⟩
  have hs1 : Below w.heap.size w w1 := Below.trans (by repeat (first | exact Below.refl _ _ | refine Below.alloc ?_ (by simp <;> omega) _)) (hb1.mono (by simp <;> omega))
  have hB1 := below_two hB0 hs1
  clear hB0 hs1 hb1
  rw [HX.out, HY.out, HE.out]
  go_wp2
  go_ret
  exact ⟨rfl, (hB1.alloc hB1.size (.cells #[.int .i64 0, .int .i64 0] 25))⟩

theorem refCompare_any (s a o t b p : Int) (w : World) :
    Calls Tryd.prog 28 #[pt s a o, pt t b p] w fun e w' => e = .returned (.int .i64 (Pit.cmpP (Pit.right s a o && Pit.right t b p) s a o t b p)) ∧ Below w.heap.size w w' := by
  cases hr : (Pit.right s a o && Pit.right t b p)
  · exact refCompare_no s a o t b p w (Lib.hid (by rw [hr]; rfl)) (Lib.hid (by rw [hr]; rfl)) (Lib.hid (by rw [hr]; rfl))
  · have eX : btS (Pit.right s a o && Pit.right t b p) s o t p = Pit.lin t p - Pit.lin s o := by rw [hr]; rfl
    have eY : btH (Pit.right s a o && Pit.right t b p) s a o t b p = Pit.num t b p - Pit.num s a o := by rw [hr]; rfl
    have eE : errP (Pit.right s a o && Pit.right t b p) = 0 := by rw [hr]; rfl
    show Calls _ _ _ _ fun e w' => e = .returned (.int .i64 (Pit.cmp2 (Pit.num s a o) (Pit.num t b p) (Pit.lin s o) (Pit.lin t p))) ∧ Below w.heap.size w w'
    rcases Pit.cmp2_cases (Pit.num s a o) (Pit.num t b p) (Pit.lin s o) (Pit.lin t p) with ⟨h, e⟩ | ⟨h, h', e⟩ | ⟨h, e⟩
    · rw [e]
      rcases h with h | ⟨h, h'⟩
      · exact refCompare_1 s a o t b p w _ _ (by omega) (Lib.hid eX) (Lib.hid eY) (Lib.hid eE)
      · exact refCompare_2 s a o t b p w (Pit.lin t p - Pit.lin s o) (by omega) (Lib.hid eX) (Lib.hid (by rw [eY]; omega)) (Lib.hid eE)
    · rw [e]
      exact refCompare_5 s a o t b p w (Lib.hid (by rw [eX]; omega)) (Lib.hid (by rw [eY]; omega)) (Lib.hid eE)
    · rw [e]
      rcases h with h | ⟨h, h'⟩
      · exact refCompare_3 s a o t b p w _ _ (by omega) (Lib.hid eX) (Lib.hid eY) (Lib.hid eE)
      · exact refCompare_4 s a o t b p w (Pit.lin t p - Pit.lin s o) (by omega) (Lib.hid eX) (Lib.hid (by rw [eY]; omega)) (Lib.hid eE)
end Go.Proofs.YtoopchnncjfjoaaDoor
