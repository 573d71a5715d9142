/-
  RatioFloor holds: the law's walk.
-/
import Derived.Test.YtgndmaihhkhnpaaDoorRatRow
namespace Go.Proofs.YtgndmaihhkhnpaaDoor
open Go.RowKit

theorem one_right {q : Int} (h1 : -1000000000 ≤ q) (h2 : q ≤ 1000000000) : Rat.IsRight q 1 := by
  have hM := Rat.M_eq
  exact ⟨by omega, by omega, by omega, by omega, by simp⟩
theorem of_one {q : Int} (h1 : -1000000000 ≤ q) (h2 : q ≤ 1000000000) : Rat.ofN q 1 = q ∧ Rat.ofD q 1 = 1 ∧ Rat.ofE q 1 = 0 := by
  obtain ⟨a, b, c⟩ := Rat.of_complete (n := q) (d := 1) (by decide) (one_right h1 h2) rfl
  exact ⟨b, c, a⟩
theorem of_one_big {q : Int} (h : 1000000000 < q) : Rat.ofN q 1 = 0 ∧ Rat.ofD q 1 = 0 ∧ Rat.ofE q 1 = 10 := by
  have hM := Rat.M_eq
  have hb : Rat.big q 1 = true := by
    unfold Rat.big Rat.top
    have e : Nat.gcd q.natAbs (1 : Int).natAbs = 1 := by simp
    rw [e, Nat.div_one, hM]; simp; omega
  exact ⟨by unfold Rat.ofN; rw [if_neg (by decide), hb]; rfl, by unfold Rat.ofD; rw [if_neg (by decide), hb]; rfl, by unfold Rat.ofE; rw [if_neg (by decide), hb]; rfl⟩
theorem sgn_le {x : Int} (h : x ≤ 0) : Rat.sgn x ≤ 0 := by unfold Rat.sgn; split; omega; split <;> omega
theorem sgn_lt {x : Int} (h : x < 0) : Rat.sgn x < 0 := by unfold Rat.sgn; rw [if_pos h]; omega

set_option maxRecDepth 100000 in
set_option maxHeartbeats 4000000 in
theorem floor_w1 (a b n d q c1 c2 : Int) (w : World) (hR : Ready w) (HX : Hid (∀ w, Calls Tryd.prog 17 #[rt a b] w fun e w' => e = .returned (rt n d) ∧ Below w.heap.size w w')) (d1 : 1 ≤ d) (d2 : d ≤ 1000000000) (q1 : -1000000000 ≤ q) (q2 : q ≤ 1000000000) (HF : Hid (floorV (Rat.right n d) n d = q ∧ floorE (Rat.right n d) = 0)) (HW : Hid (Rat.ofN q 1 = q ∧ Rat.ofD q 1 = 1 ∧ Rat.ofE q 1 = 0)) (HM : Hid (Rat.ofN (q + 1) 1 = q + 1 ∧ Rat.ofD (q + 1) 1 = 1 ∧ Rat.ofE (q + 1) 1 = 0)) (HF2 : Hid (floorV (Rat.right n (-d)) n (-d) = 0 ∧ floorE (Rat.right n (-d)) = 10)) (HC1 : Hid (cmpV (Rat.right q 1 && Rat.right n d) (q * d - n * 1) = c1)) (h1 : c1 ≤ 0) (HC2 : Hid (cmpV (Rat.right n d && Rat.right (q + 1) 1) (n * 1 - (q + 1) * d) = c2)) (h2 : c2 < 0) (hd : (d != 1) = false) (hq : (q == n) = true) : Calls Tryd.prog 8 #[rt a b] w fun e w' => e = .returned (.bool true) ∧ Below w.heap.size w w' := by
  have ix : Rat.I64 q := i64_small q1 q2
  have iy : Rat.I64 (q + 1) := by unfold Rat.I64; omega
  have i1 : Rat.I64 1 := by unfold Rat.I64; omega
  have hB0 : Below w.heap.size w w := Below.refl _ _
  go_enter Tryd.func8, Tryd.ntmps8
  go_wp2_with fail
  have hR' := hR.below ((Below.refl _ _).alloc (Nat.le_refl _) (.cells #[.int .i64 a, .int .i64 b] 23))
  refine (examples_any _ hR').mono ?_
  rintro e w1 ⟨rfl, hb1⟩
  have hs1 : Below w.heap.size w w1 := Below.trans (by repeat (first | exact Below.refl _ _ | refine Below.alloc ?_ (by simp <;> omega) _)) (hb1.mono (by simp <;> omega))
  have c_p_0 : w1.cell? ⟨w.heap.size, 0, none⟩ = some (.int .i64 a) := (hb1.cell (by simp <;> omega)).trans (by go_simp)
  have c_p_1 : w1.cell? ⟨w.heap.size, 1, none⟩ = some (.int .i64 b) := (hb1.cell (by simp <;> omega)).trans (by go_simp)
  have z_p := World.block_lt_of_cell? _ _ c_p_0
  have hB1 := below_two hB0 hs1
  replace hR := hR.below hs1
  clear hB0 hs1 hb1
  clear hR'
  go_wp2_with fail
  refine (HX.out _).mono ?_
  rintro e w2 ⟨rfl, hb2⟩
  have hs2 := hb2
  clear c_p_0
  clear c_p_1
  clear z_p
  have hB2 := below_two hB1 hs2
  clear hB1 hs2
  go_wp2_with fail
  refine (floor_any _ _ _).mono ?_
  rintro e w3 ⟨rfl, hb3⟩
  have hs3 : Below w2.heap.size w2 w3 := Below.trans (by repeat (first | exact Below.refl _ _ | refine Below.alloc ?_ (by simp <;> omega) _)) (hb3.mono (by simp <;> omega))
  have c_x_0 : w3.cell? ⟨w2.heap.size, 0, none⟩ = some (.int .i64 n) := (hb3.cell (by simp <;> omega)).trans (by go_simp)
  have c_x_1 : w3.cell? ⟨w2.heap.size, 1, none⟩ = some (.int .i64 d) := (hb3.cell (by simp <;> omega)).trans (by go_simp)
  have z_x := World.block_lt_of_cell? _ _ c_x_0
  have hB3 := below_two hB2 hs3
  clear hB2 hs3 hb3
  rw [HF.out.1, HF.out.2]
  go_wp2_with fail
  refine (of_any _ _ _ ix i1).mono ?_
  rintro e w4 ⟨rfl, hb4⟩
  have hs4 := hb4
  replace c_x_0 := cell_later hs4 c_x_0
  replace c_x_1 := cell_later hs4 c_x_1
  clear z_x
  have z_x := World.block_lt_of_cell? _ _ c_x_0
  have hB4 := below_two hB3 hs4
  clear hB3 hs4
  rw [HW.out.1, HW.out.2.1, HW.out.2.2]
  go_wp2_with fail
  refine (of_any _ _ _ iy i1).mono ?_
  rintro e w5 ⟨rfl, hb5⟩
  have hs5 : Below w4.heap.size w4 w5 := Below.trans (by repeat (first | exact Below.refl _ _ | refine Below.alloc ?_ (by simp <;> omega) _)) (hb5.mono (by simp <;> omega))
  replace c_x_0 := cell_later hs5 c_x_0
  replace c_x_1 := cell_later hs5 c_x_1
  have c_w0_0 : w5.cell? ⟨w4.heap.size, 0, none⟩ = some (.int .i64 q) := (hb5.cell (by simp <;> omega)).trans (by go_simp)
  have c_w0_1 : w5.cell? ⟨w4.heap.size, 1, none⟩ = some (.int .i64 1) := (hb5.cell (by simp <;> omega)).trans (by go_simp)
  have z_w0 := World.block_lt_of_cell? _ _ c_w0_0
  clear z_x
  have z_x := World.block_lt_of_cell? _ _ c_x_0
  have hB5 := below_two hB4 hs5
  clear hB4 hs5 hb5
  rw [HM.out.1, HM.out.2.1, HM.out.2.2]
  go_wp2_with fail
  refine (floor_any _ _ _).mono ?_
  rintro e w6 ⟨rfl, hb6⟩
  have hs6 : Below w5.heap.size w5 w6 := Below.trans (by repeat (first | exact Below.refl _ _ | refine Below.alloc ?_ (by simp <;> omega) _)) (hb6.mono (by simp <;> omega))
  replace c_x_0 := cell_later hs6 c_x_0
  replace c_x_1 := cell_later hs6 c_x_1
  replace c_w0_0 := cell_later hs6 c_w0_0
  replace c_w0_1 := cell_later hs6 c_w0_1
  have c_m_0 : w6.cell? ⟨w5.heap.size, 0, none⟩ = some (.int .i64 (q + 1)) := (hb6.cell (by simp <;> omega)).trans (by go_simp)
  have c_m_1 : w6.cell? ⟨w5.heap.size, 1, none⟩ = some (.int .i64 1) := (hb6.cell (by simp <;> omega)).trans (by go_simp)
  have z_m := World.block_lt_of_cell? _ _ c_m_0
  clear z_w0
  have z_w0 := World.block_lt_of_cell? _ _ c_w0_0
  clear z_x
  have z_x := World.block_lt_of_cell? _ _ c_x_0
  have hB6 := below_two hB5 hs6
  clear hB5 hs6 hb6
  rw [HF2.out.1, HF2.out.2]
  go_wp2_with fail
  refine (compare_any _ _ _ _ _).mono ?_
  rintro e w7 ⟨rfl, hb7⟩
  have hs7 := hb7
  replace c_x_0 := cell_later hs7 c_x_0
  replace c_x_1 := cell_later hs7 c_x_1
  replace c_w0_0 := cell_later hs7 c_w0_0
  replace c_w0_1 := cell_later hs7 c_w0_1
  replace c_m_0 := cell_later hs7 c_m_0
  replace c_m_1 := cell_later hs7 c_m_1
  clear z_m
  have z_m := World.block_lt_of_cell? _ _ c_m_0
  clear z_w0
  have z_w0 := World.block_lt_of_cell? _ _ c_w0_0
  clear z_x
  have z_x := World.block_lt_of_cell? _ _ c_x_0
  have hB7 := below_two hB6 hs7
  clear hB6 hs7
  rw [HC1.out]
  go_wp2_with fail
  refine (compare_any _ _ _ _ _).mono ?_
  rintro e w8 ⟨rfl, hb8⟩
  have hs8 := hb8
  replace c_x_0 := cell_later hs8 c_x_0
  replace c_x_1 := cell_later hs8 c_x_1
  replace c_w0_0 := cell_later hs8 c_w0_0
  replace c_w0_1 := cell_later hs8 c_w0_1
  replace c_m_0 := cell_later hs8 c_m_0
  replace c_m_1 := cell_later hs8 c_m_1
  clear z_m
  have z_m := World.block_lt_of_cell? _ _ c_m_0
  clear z_w0
  have z_w0 := World.block_lt_of_cell? _ _ c_w0_0
  clear z_x
  have z_x := World.block_lt_of_cell? _ _ c_x_0
  have hB8 := below_two hB7 hs8
  clear hB7 hs8
  rw [HC2.out]
  go_wp2
  go_ret
  exact ⟨rfl, hB8⟩

set_option maxRecDepth 100000 in
set_option maxHeartbeats 4000000 in
theorem floor_w2 (a b n d q c1 c2 : Int) (w : World) (hR : Ready w) (HX : Hid (∀ w, Calls Tryd.prog 17 #[rt a b] w fun e w' => e = .returned (rt n d) ∧ Below w.heap.size w w')) (d1 : 1 ≤ d) (d2 : d ≤ 1000000000) (q1 : -1000000000 ≤ q) (q2 : q ≤ 1000000000) (HF : Hid (floorV (Rat.right n d) n d = q ∧ floorE (Rat.right n d) = 0)) (HW : Hid (Rat.ofN q 1 = q ∧ Rat.ofD q 1 = 1 ∧ Rat.ofE q 1 = 0)) (HM : Hid (Rat.ofN (q + 1) 1 = q + 1 ∧ Rat.ofD (q + 1) 1 = 1 ∧ Rat.ofE (q + 1) 1 = 0)) (HF2 : Hid (floorV (Rat.right n (-d)) n (-d) = 0 ∧ floorE (Rat.right n (-d)) = 10)) (HC1 : Hid (cmpV (Rat.right q 1 && Rat.right n d) (q * d - n * 1) = c1)) (h1 : c1 ≤ 0) (HC2 : Hid (cmpV (Rat.right n d && Rat.right (q + 1) 1) (n * 1 - (q + 1) * d) = c2)) (h2 : c2 < 0) (hd : (d != 1) = true) : Calls Tryd.prog 8 #[rt a b] w fun e w' => e = .returned (.bool true) ∧ Below w.heap.size w w' := by
  have ix : Rat.I64 q := i64_small q1 q2
  have iy : Rat.I64 (q + 1) := by unfold Rat.I64; omega
  have i1 : Rat.I64 1 := by unfold Rat.I64; omega
  have hB0 : Below w.heap.size w w := Below.refl _ _
  go_enter Tryd.func8, Tryd.ntmps8
  go_wp2_with fail
  have hR' := hR.below ((Below.refl _ _).alloc (Nat.le_refl _) (.cells #[.int .i64 a, .int .i64 b] 23))
  refine (examples_any _ hR').mono ?_
  rintro e w1 ⟨rfl, hb1⟩
  have hs1 : Below w.heap.size w w1 := Below.trans (by repeat (first | exact Below.refl _ _ | refine Below.alloc ?_ (by simp <;> omega) _)) (hb1.mono (by simp <;> omega))
  have c_p_0 : w1.cell? ⟨w.heap.size, 0, none⟩ = some (.int .i64 a) := (hb1.cell (by simp <;> omega)).trans (by go_simp)
  have c_p_1 : w1.cell? ⟨w.heap.size, 1, none⟩ = some (.int .i64 b) := (hb1.cell (by simp <;> omega)).trans (by go_simp)
  have z_p := World.block_lt_of_cell? _ _ c_p_0
  have hB1 := below_two hB0 hs1
  replace hR := hR.below hs1
  clear hB0 hs1 hb1
  clear hR'
  go_wp2_with fail
  refine (HX.out _).mono ?_
  rintro e w2 ⟨rfl, hb2⟩
  have hs2 := hb2
  clear c_p_0
  clear c_p_1
  clear z_p
  have hB2 := below_two hB1 hs2
  clear hB1 hs2
  go_wp2_with fail
  refine (floor_any _ _ _).mono ?_
  rintro e w3 ⟨rfl, hb3⟩
  have hs3 : Below w2.heap.size w2 w3 := Below.trans (by repeat (first | exact Below.refl _ _ | refine Below.alloc ?_ (by simp <;> omega) _)) (hb3.mono (by simp <;> omega))
  have c_x_0 : w3.cell? ⟨w2.heap.size, 0, none⟩ = some (.int .i64 n) := (hb3.cell (by simp <;> omega)).trans (by go_simp)
  have c_x_1 : w3.cell? ⟨w2.heap.size, 1, none⟩ = some (.int .i64 d) := (hb3.cell (by simp <;> omega)).trans (by go_simp)
  have z_x := World.block_lt_of_cell? _ _ c_x_0
  have hB3 := below_two hB2 hs3
  clear hB2 hs3 hb3
  rw [HF.out.1, HF.out.2]
  go_wp2_with fail
  refine (of_any _ _ _ ix i1).mono ?_
  rintro e w4 ⟨rfl, hb4⟩
  have hs4 := hb4
  replace c_x_0 := cell_later hs4 c_x_0
  replace c_x_1 := cell_later hs4 c_x_1
  clear z_x
  have z_x := World.block_lt_of_cell? _ _ c_x_0
  have hB4 := below_two hB3 hs4
  clear hB3 hs4
  rw [HW.out.1, HW.out.2.1, HW.out.2.2]
  go_wp2_with fail
  refine (of_any _ _ _ iy i1).mono ?_
  rintro e w5 ⟨rfl, hb5⟩
  have hs5 : Below w4.heap.size w4 w5 := Below.trans (by repeat (first | exact Below.refl _ _ | refine Below.alloc ?_ (by simp <;> omega) _)) (hb5.mono (by simp <;> omega))
  replace c_x_0 := cell_later hs5 c_x_0
  replace c_x_1 := cell_later hs5 c_x_1
  have c_w0_0 : w5.cell? ⟨w4.heap.size, 0, none⟩ = some (.int .i64 q) := (hb5.cell (by simp <;> omega)).trans (by go_simp)
  have c_w0_1 : w5.cell? ⟨w4.heap.size, 1, none⟩ = some (.int .i64 1) := (hb5.cell (by simp <;> omega)).trans (by go_simp)
  have z_w0 := World.block_lt_of_cell? _ _ c_w0_0
  clear z_x
  have z_x := World.block_lt_of_cell? _ _ c_x_0
  have hB5 := below_two hB4 hs5
  clear hB4 hs5 hb5
  rw [HM.out.1, HM.out.2.1, HM.out.2.2]
  go_wp2_with fail
  refine (floor_any _ _ _).mono ?_
  rintro e w6 ⟨rfl, hb6⟩
  have hs6 : Below w5.heap.size w5 w6 := Below.trans (by repeat (first | exact Below.refl _ _ | refine Below.alloc ?_ (by simp <;> omega) _)) (hb6.mono (by simp <;> omega))
  replace c_x_0 := cell_later hs6 c_x_0
  replace c_x_1 := cell_later hs6 c_x_1
  replace c_w0_0 := cell_later hs6 c_w0_0
  replace c_w0_1 := cell_later hs6 c_w0_1
  have c_m_0 : w6.cell? ⟨w5.heap.size, 0, none⟩ = some (.int .i64 (q + 1)) := (hb6.cell (by simp <;> omega)).trans (by go_simp)
  have c_m_1 : w6.cell? ⟨w5.heap.size, 1, none⟩ = some (.int .i64 1) := (hb6.cell (by simp <;> omega)).trans (by go_simp)
  have z_m := World.block_lt_of_cell? _ _ c_m_0
  clear z_w0
  have z_w0 := World.block_lt_of_cell? _ _ c_w0_0
  clear z_x
  have z_x := World.block_lt_of_cell? _ _ c_x_0
  have hB6 := below_two hB5 hs6
  clear hB5 hs6 hb6
  rw [HF2.out.1, HF2.out.2]
  go_wp2_with fail
  refine (compare_any _ _ _ _ _).mono ?_
  rintro e w7 ⟨rfl, hb7⟩
  have hs7 := hb7
  replace c_x_0 := cell_later hs7 c_x_0
  replace c_x_1 := cell_later hs7 c_x_1
  replace c_w0_0 := cell_later hs7 c_w0_0
  replace c_w0_1 := cell_later hs7 c_w0_1
  replace c_m_0 := cell_later hs7 c_m_0
  replace c_m_1 := cell_later hs7 c_m_1
  clear z_m
  have z_m := World.block_lt_of_cell? _ _ c_m_0
  clear z_w0
  have z_w0 := World.block_lt_of_cell? _ _ c_w0_0
  clear z_x
  have z_x := World.block_lt_of_cell? _ _ c_x_0
  have hB7 := below_two hB6 hs7
  clear hB6 hs7
  rw [HC1.out]
  go_wp2_with fail
  refine (compare_any _ _ _ _ _).mono ?_
  rintro e w8 ⟨rfl, hb8⟩
  have hs8 := hb8
  replace c_x_0 := cell_later hs8 c_x_0
  replace c_x_1 := cell_later hs8 c_x_1
  replace c_w0_0 := cell_later hs8 c_w0_0
  replace c_w0_1 := cell_later hs8 c_w0_1
  replace c_m_0 := cell_later hs8 c_m_0
  replace c_m_1 := cell_later hs8 c_m_1
  clear z_m
  have z_m := World.block_lt_of_cell? _ _ c_m_0
  clear z_w0
  have z_w0 := World.block_lt_of_cell? _ _ c_w0_0
  clear z_x
  have z_x := World.block_lt_of_cell? _ _ c_x_0
  have hB8 := below_two hB7 hs8
  clear hB7 hs8
  rw [HC2.out]
  go_wp2
  go_ret
  exact ⟨rfl, hB8⟩

set_option maxRecDepth 100000 in
set_option maxHeartbeats 4000000 in
theorem floor_w3 (a b n d q c1 : Int) (w : World) (hR : Ready w) (HX : Hid (∀ w, Calls Tryd.prog 17 #[rt a b] w fun e w' => e = .returned (rt n d) ∧ Below w.heap.size w w')) (d1 : 1 ≤ d) (d2 : d ≤ 1000000000) (q1 : -1000000000 ≤ q) (q2 : q ≤ 1000000000) (HF : Hid (floorV (Rat.right n d) n d = q ∧ floorE (Rat.right n d) = 0)) (HW : Hid (Rat.ofN q 1 = q ∧ Rat.ofD q 1 = 1 ∧ Rat.ofE q 1 = 0)) (HM : Hid (Rat.ofN (q + 1) 1 = 0 ∧ Rat.ofD (q + 1) 1 = 0 ∧ Rat.ofE (q + 1) 1 = 10)) (HF2 : Hid (floorV (Rat.right n (-d)) n (-d) = 0 ∧ floorE (Rat.right n (-d)) = 10)) (HC1 : Hid (cmpV (Rat.right q 1 && Rat.right n d) (q * d - n * 1) = c1)) (h1 : c1 ≤ 0) (hd : (d != 1) = false) (hq : (q == n) = true) : Calls Tryd.prog 8 #[rt a b] w fun e w' => e = .returned (.bool true) ∧ Below w.heap.size w w' := by
  have ix : Rat.I64 q := i64_small q1 q2
  have iy : Rat.I64 (q + 1) := by unfold Rat.I64; omega
  have i1 : Rat.I64 1 := by unfold Rat.I64; omega
  have hB0 : Below w.heap.size w w := Below.refl _ _
  go_enter Tryd.func8, Tryd.ntmps8
  go_wp2_with fail
  have hR' := hR.below ((Below.refl _ _).alloc (Nat.le_refl _) (.cells #[.int .i64 a, .int .i64 b] 23))
  refine (examples_any _ hR').mono ?_
  rintro e w1 ⟨rfl, hb1⟩
  have hs1 : Below w.heap.size w w1 := Below.trans (by repeat (first | exact Below.refl _ _ | refine Below.alloc ?_ (by simp <;> omega) _)) (hb1.mono (by simp <;> omega))
  have c_p_0 : w1.cell? ⟨w.heap.size, 0, none⟩ = some (.int .i64 a) := (hb1.cell (by simp <;> omega)).trans (by go_simp)
  have c_p_1 : w1.cell? ⟨w.heap.size, 1, none⟩ = some (.int .i64 b) := (hb1.cell (by simp <;> omega)).trans (by go_simp)
  have z_p := World.block_lt_of_cell? _ _ c_p_0
  have hB1 := below_two hB0 hs1
  replace hR := hR.below hs1
  clear hB0 hs1 hb1
  clear hR'
  go_wp2_with fail
  refine (HX.out _).mono ?_
  rintro e w2 ⟨rfl, hb2⟩
  have hs2 := hb2
  clear c_p_0
  clear c_p_1
  clear z_p
  have hB2 := below_two hB1 hs2
  clear hB1 hs2
  go_wp2_with fail
  refine (floor_any _ _ _).mono ?_
  rintro e w3 ⟨rfl, hb3⟩
  have hs3 : Below w2.heap.size w2 w3 := Below.trans (by repeat (first | exact Below.refl _ _ | refine Below.alloc ?_ (by simp <;> omega) _)) (hb3.mono (by simp <;> omega))
  have c_x_0 : w3.cell? ⟨w2.heap.size, 0, none⟩ = some (.int .i64 n) := (hb3.cell (by simp <;> omega)).trans (by go_simp)
  have c_x_1 : w3.cell? ⟨w2.heap.size, 1, none⟩ = some (.int .i64 d) := (hb3.cell (by simp <;> omega)).trans (by go_simp)
  have z_x := World.block_lt_of_cell? _ _ c_x_0
  have hB3 := below_two hB2 hs3
  clear hB2 hs3 hb3
  rw [HF.out.1, HF.out.2]
  go_wp2_with fail
  refine (of_any _ _ _ ix i1).mono ?_
  rintro e w4 ⟨rfl, hb4⟩
  have hs4 := hb4
  replace c_x_0 := cell_later hs4 c_x_0
  replace c_x_1 := cell_later hs4 c_x_1
  clear z_x
  have z_x := World.block_lt_of_cell? _ _ c_x_0
  have hB4 := below_two hB3 hs4
  clear hB3 hs4
  rw [HW.out.1, HW.out.2.1, HW.out.2.2]
  go_wp2_with fail
  refine (of_any _ _ _ iy i1).mono ?_
  rintro e w5 ⟨rfl, hb5⟩
  have hs5 : Below w4.heap.size w4 w5 := Below.trans (by repeat (first | exact Below.refl _ _ | refine Below.alloc ?_ (by simp <;> omega) _)) (hb5.mono (by simp <;> omega))
  replace c_x_0 := cell_later hs5 c_x_0
  replace c_x_1 := cell_later hs5 c_x_1
  have c_w0_0 : w5.cell? ⟨w4.heap.size, 0, none⟩ = some (.int .i64 q) := (hb5.cell (by simp <;> omega)).trans (by go_simp)
  have c_w0_1 : w5.cell? ⟨w4.heap.size, 1, none⟩ = some (.int .i64 1) := (hb5.cell (by simp <;> omega)).trans (by go_simp)
  have z_w0 := World.block_lt_of_cell? _ _ c_w0_0
  clear z_x
  have z_x := World.block_lt_of_cell? _ _ c_x_0
  have hB5 := below_two hB4 hs5
  clear hB4 hs5 hb5
  rw [HM.out.1, HM.out.2.1, HM.out.2.2]
  go_wp2_with fail
  refine (floor_any _ _ _).mono ?_
  rintro e w6 ⟨rfl, hb6⟩
  have hs6 : Below w5.heap.size w5 w6 := Below.trans (by repeat (first | exact Below.refl _ _ | refine Below.alloc ?_ (by simp <;> omega) _)) (hb6.mono (by simp <;> omega))
  replace c_x_0 := cell_later hs6 c_x_0
  replace c_x_1 := cell_later hs6 c_x_1
  replace c_w0_0 := cell_later hs6 c_w0_0
  replace c_w0_1 := cell_later hs6 c_w0_1
  have c_m_0 : w6.cell? ⟨w5.heap.size, 0, none⟩ = some (.int .i64 (0)) := (hb6.cell (by simp <;> omega)).trans (by go_simp)
  have c_m_1 : w6.cell? ⟨w5.heap.size, 1, none⟩ = some (.int .i64 0) := (hb6.cell (by simp <;> omega)).trans (by go_simp)
  have z_m := World.block_lt_of_cell? _ _ c_m_0
  clear z_w0
  have z_w0 := World.block_lt_of_cell? _ _ c_w0_0
  clear z_x
  have z_x := World.block_lt_of_cell? _ _ c_x_0
  have hB6 := below_two hB5 hs6
  clear hB5 hs6 hb6
  rw [HF2.out.1, HF2.out.2]
  go_wp2_with fail
  refine (compare_any _ _ _ _ _).mono ?_
  rintro e w7 ⟨rfl, hb7⟩
  have hs7 := hb7
  replace c_x_0 := cell_later hs7 c_x_0
  replace c_x_1 := cell_later hs7 c_x_1
  replace c_w0_0 := cell_later hs7 c_w0_0
  replace c_w0_1 := cell_later hs7 c_w0_1
  replace c_m_0 := cell_later hs7 c_m_0
  replace c_m_1 := cell_later hs7 c_m_1
  clear z_m
  have z_m := World.block_lt_of_cell? _ _ c_m_0
  clear z_w0
  have z_w0 := World.block_lt_of_cell? _ _ c_w0_0
  clear z_x
  have z_x := World.block_lt_of_cell? _ _ c_x_0
  have hB7 := below_two hB6 hs7
  clear hB6 hs7
  rw [HC1.out]
  go_wp2
  go_ret
  exact ⟨rfl, hB7⟩

set_option maxRecDepth 100000 in
set_option maxHeartbeats 4000000 in
theorem floor_w4 (a b n d q c1 : Int) (w : World) (hR : Ready w) (HX : Hid (∀ w, Calls Tryd.prog 17 #[rt a b] w fun e w' => e = .returned (rt n d) ∧ Below w.heap.size w w')) (d1 : 1 ≤ d) (d2 : d ≤ 1000000000) (q1 : -1000000000 ≤ q) (q2 : q ≤ 1000000000) (HF : Hid (floorV (Rat.right n d) n d = q ∧ floorE (Rat.right n d) = 0)) (HW : Hid (Rat.ofN q 1 = q ∧ Rat.ofD q 1 = 1 ∧ Rat.ofE q 1 = 0)) (HM : Hid (Rat.ofN (q + 1) 1 = 0 ∧ Rat.ofD (q + 1) 1 = 0 ∧ Rat.ofE (q + 1) 1 = 10)) (HF2 : Hid (floorV (Rat.right n (-d)) n (-d) = 0 ∧ floorE (Rat.right n (-d)) = 10)) (HC1 : Hid (cmpV (Rat.right q 1 && Rat.right n d) (q * d - n * 1) = c1)) (h1 : c1 ≤ 0) (hd : (d != 1) = true) : Calls Tryd.prog 8 #[rt a b] w fun e w' => e = .returned (.bool true) ∧ Below w.heap.size w w' := by
  have ix : Rat.I64 q := i64_small q1 q2
  have iy : Rat.I64 (q + 1) := by unfold Rat.I64; omega
  have i1 : Rat.I64 1 := by unfold Rat.I64; omega
  have hB0 : Below w.heap.size w w := Below.refl _ _
  go_enter Tryd.func8, Tryd.ntmps8
  go_wp2_with fail
  have hR' := hR.below ((Below.refl _ _).alloc (Nat.le_refl _) (.cells #[.int .i64 a, .int .i64 b] 23))
  refine (examples_any _ hR').mono ?_
  rintro e w1 ⟨rfl, hb1⟩
  have hs1 : Below w.heap.size w w1 := Below.trans (by repeat (first | exact Below.refl _ _ | refine Below.alloc ?_ (by simp <;> omega) _)) (hb1.mono (by simp <;> omega))
  have c_p_0 : w1.cell? ⟨w.heap.size, 0, none⟩ = some (.int .i64 a) := (hb1.cell (by simp <;> omega)).trans (by go_simp)
  have c_p_1 : w1.cell? ⟨w.heap.size, 1, none⟩ = some (.int .i64 b) := (hb1.cell (by simp <;> omega)).trans (by go_simp)
  have z_p := World.block_lt_of_cell? _ _ c_p_0
  have hB1 := below_two hB0 hs1
  replace hR := hR.below hs1
  clear hB0 hs1 hb1
  clear hR'
  go_wp2_with fail
  refine (HX.out _).mono ?_
  rintro e w2 ⟨rfl, hb2⟩
  have hs2 := hb2
  clear c_p_0
  clear c_p_1
  clear z_p
  have hB2 := below_two hB1 hs2
  clear hB1 hs2
  go_wp2_with fail
  refine (floor_any _ _ _).mono ?_
  rintro e w3 ⟨rfl, hb3⟩
  have hs3 : Below w2.heap.size w2 w3 := Below.trans (by repeat (first | exact Below.refl _ _ | refine Below.alloc ?_ (by simp <;> omega) _)) (hb3.mono (by simp <;> omega))
  have c_x_0 : w3.cell? ⟨w2.heap.size, 0, none⟩ = some (.int .i64 n) := (hb3.cell (by simp <;> omega)).trans (by go_simp)
  have c_x_1 : w3.cell? ⟨w2.heap.size, 1, none⟩ = some (.int .i64 d) := (hb3.cell (by simp <;> omega)).trans (by go_simp)
  have z_x := World.block_lt_of_cell? _ _ c_x_0
  have hB3 := below_two hB2 hs3
  clear hB2 hs3 hb3
  rw [HF.out.1, HF.out.2]
  go_wp2_with fail
  refine (of_any _ _ _ ix i1).mono ?_
  rintro e w4 ⟨rfl, hb4⟩
  have hs4 := hb4
  replace c_x_0 := cell_later hs4 c_x_0
  replace c_x_1 := cell_later hs4 c_x_1
  clear z_x
  have z_x := World.block_lt_of_cell? _ _ c_x_0
  have hB4 := below_two hB3 hs4
  clear hB3 hs4
  rw [HW.out.1, HW.out.2.1, HW.out.2.2]
  go_wp2_with fail
  refine (of_any _ _ _ iy i1).mono ?_
  rintro e w5 ⟨rfl, hb5⟩
  have hs5 : Below w4.heap.size w4 w5 := Below.trans (by repeat (first | exact Below.refl _ _ | refine Below.alloc ?_ (by simp <;> omega) _)) (hb5.mono (by simp <;> omega))
  replace c_x_0 := cell_later hs5 c_x_0
  replace c_x_1 := cell_later hs5 c_x_1
  have c_w0_0 : w5.cell? ⟨w4.heap.size, 0, none⟩ = some (.int .i64 q) := (hb5.cell (by simp <;> omega)).trans (by go_simp)
  have c_w0_1 : w5.cell? ⟨w4.heap.size, 1, none⟩ = some (.int .i64 1) := (hb5.cell (by simp <;> omega)).trans (by go_simp)
  have z_w0 := World.block_lt_of_cell? _ _ c_w0_0
  clear z_x
  have z_x := World.block_lt_of_cell? _ _ c_x_0
  have hB5 := below_two hB4 hs5
  clear hB4 hs5 hb5
  rw [HM.out.1, HM.out.2.1, HM.out.2.2]
  go_wp2_with fail
  refine (floor_any _ _ _).mono ?_
  rintro e w6 ⟨rfl, hb6⟩
  have hs6 : Below w5.heap.size w5 w6 := Below.trans (by repeat (first | exact Below.refl _ _ | refine Below.alloc ?_ (by simp <;> omega) _)) (hb6.mono (by simp <;> omega))
  replace c_x_0 := cell_later hs6 c_x_0
  replace c_x_1 := cell_later hs6 c_x_1
  replace c_w0_0 := cell_later hs6 c_w0_0
  replace c_w0_1 := cell_later hs6 c_w0_1
  have c_m_0 : w6.cell? ⟨w5.heap.size, 0, none⟩ = some (.int .i64 (0)) := (hb6.cell (by simp <;> omega)).trans (by go_simp)
  have c_m_1 : w6.cell? ⟨w5.heap.size, 1, none⟩ = some (.int .i64 0) := (hb6.cell (by simp <;> omega)).trans (by go_simp)
  have z_m := World.block_lt_of_cell? _ _ c_m_0
  clear z_w0
  have z_w0 := World.block_lt_of_cell? _ _ c_w0_0
  clear z_x
  have z_x := World.block_lt_of_cell? _ _ c_x_0
  have hB6 := below_two hB5 hs6
  clear hB5 hs6 hb6
  rw [HF2.out.1, HF2.out.2]
  go_wp2_with fail
  refine (compare_any _ _ _ _ _).mono ?_
  rintro e w7 ⟨rfl, hb7⟩
  have hs7 := hb7
  replace c_x_0 := cell_later hs7 c_x_0
  replace c_x_1 := cell_later hs7 c_x_1
  replace c_w0_0 := cell_later hs7 c_w0_0
  replace c_w0_1 := cell_later hs7 c_w0_1
  replace c_m_0 := cell_later hs7 c_m_0
  replace c_m_1 := cell_later hs7 c_m_1
  clear z_m
  have z_m := World.block_lt_of_cell? _ _ c_m_0
  clear z_w0
  have z_w0 := World.block_lt_of_cell? _ _ c_w0_0
  clear z_x
  have z_x := World.block_lt_of_cell? _ _ c_x_0
  have hB7 := below_two hB6 hs7
  clear hB6 hs7
  rw [HC1.out]
  go_wp2
  go_ret
  exact ⟨rfl, hB7⟩

theorem ratioFloor_calls (a b : Int) (ha : Rat.I64 a) (hb : Rat.I64 b) (w : World) (hR : Ready w) : LawHolds 8 #[rt a b] w := by
  obtain ⟨n, d, hr, hX⟩ := ratio_fix a b ha hb
  obtain ⟨d1, d2, n1, n2⟩ := right_bounds hr
  have hrt := right_true hr
  obtain ⟨q1, q2⟩ := floor_bounds d1 n1 n2
  have hmod := Int.emod_nonneg n (show d ≠ 0 by omega)
  have hlt := Int.emod_lt_of_pos n (show 0 < d by omega)
  have hdm := Int.mul_ediv_add_emod n d
  have hF2 : floorV (Rat.right n (-d)) n (-d) = 0 ∧ floorE (Rat.right n (-d)) = 10 := by rw [right_d1 (by omega)]; exact ⟨rfl, rfl⟩
  have hF : floorV (Rat.right n d) n d = n / d ∧ floorE (Rat.right n d) = 0 := by rw [hrt]; exact ⟨rfl, rfl⟩
  generalize hq : n / d = q at *
  have hc1 : cmpV (Rat.right q 1 && Rat.right n d) (q * d - n * 1) ≤ 0 := by
    rw [right_true (one_right q1 q2), hrt]
    exact sgn_le (by rw [Int.mul_comm q d]; omega)
  by_cases hm : q + 1 ≤ 1000000000
  · have hc2 : cmpV (Rat.right n d && Rat.right (q + 1) 1) (n * 1 - (q + 1) * d) < 0 := by
      rw [right_true (one_right (q := q + 1) (by omega) hm), hrt]
      exact sgn_lt (by have : (q + 1) * d = d * q + d := by grind
                       omega)
    by_cases h1 : d = 1
    · exact floor_w1 a b n d q _ _ w hR (Lib.hid hX) d1 d2 q1 q2 (Lib.hid hF) (Lib.hid (of_one q1 q2)) (Lib.hid (of_one (by omega) hm)) (Lib.hid hF2) (Lib.hid rfl) hc1 (Lib.hid rfl) hc2 (by simp [h1]) (by subst h1; simp at hq; simp [hq])
    · exact floor_w2 a b n d q _ _ w hR (Lib.hid hX) d1 d2 q1 q2 (Lib.hid hF) (Lib.hid (of_one q1 q2)) (Lib.hid (of_one (by omega) hm)) (Lib.hid hF2) (Lib.hid rfl) hc1 (Lib.hid rfl) hc2 (by simp [h1])
  · by_cases h1 : d = 1
    · exact floor_w3 a b n d q _ w hR (Lib.hid hX) d1 d2 q1 q2 (Lib.hid hF) (Lib.hid (of_one q1 q2)) (Lib.hid (of_one_big (by omega))) (Lib.hid hF2) (Lib.hid rfl) hc1 (by simp [h1]) (by subst h1; simp at hq; simp [hq])
    · exact floor_w4 a b n d q _ w hR (Lib.hid hX) d1 d2 q1 q2 (Lib.hid hF) (Lib.hid (of_one q1 q2)) (Lib.hid (of_one_big (by omega))) (Lib.hid hF2) (Lib.hid rfl) hc1 (by simp [h1])
end Go.Proofs.YtgndmaihhkhnpaaDoor
