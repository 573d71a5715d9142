/-
  RatioLowest holds: the law's walk.
-/
import Derived.Test.YtgndmaihhkhnpaaDoorRatFacts
namespace Go.Proofs.YtgndmaihhkhnpaaDoor
open Go.RowKit

set_option maxRecDepth 100000 in
set_option maxHeartbeats 4000000 in
theorem lowest_w (num den by' x y z p q nk dk mk lk : Int) (w : World) (hR : Ready w) (in1 : Rat.I64 num) (in2 : Rat.I64 den) (in3 : Rat.I64 by') (j1 : Rat.I64 nk) (j2 : Rat.I64 dk) (j3 : Rat.I64 mk) (j4 : Rat.I64 lk) (j5 : Rat.I64 (x - 1000000)) (j6 : Rat.I64 (1 + y)) (j7 : Rat.I64 (-(x - 1000000))) (j8 : Rat.I64 1) (HN : Hid (pickS num 2000001 = x)) (HD : Hid (pickS den 1000000 = y)) (HK : Hid (pickS by' 1000000 = z)) (x0 : 0 ≤ x) (x1 : x ≤ 2000000) (y0 : 0 ≤ y) (y1 : y ≤ 999999) (z0 : 0 ≤ z) (z1 : z ≤ 999999) (e1 : wrap64 ((x - 1000000) * (1 + z)) = nk) (e2 : wrap64 ((1 + y) * (1 + z)) = dk) (e3 : wrap64 (-(x - 1000000) * (1 + z)) = mk) (e4 : wrap64 (-(1 + y) * (1 + z)) = lk) (H1 : Hid (Rat.ofN (x - 1000000) (1 + y) = p ∧ Rat.ofD (x - 1000000) (1 + y) = q ∧ Rat.ofE (x - 1000000) (1 + y) = 0)) (H2 : Hid (Rat.ofN (nk) (dk) = p ∧ Rat.ofD (nk) (dk) = q ∧ Rat.ofE (nk) (dk) = 0)) (H3 : Hid (Rat.ofN (mk) (lk) = p ∧ Rat.ofD (mk) (lk) = q ∧ Rat.ofE (mk) (lk) = 0)) (H4 : Hid (Rat.ofN (-(x - 1000000)) (1 + y) = -p ∧ Rat.ofD (-(x - 1000000)) (1 + y) = q ∧ Rat.ofE (-(x - 1000000)) (1 + y) = 0)) (H5 : Hid (Rat.ofN (x - 1000000) (1) = x - 1000000 ∧ Rat.ofD (x - 1000000) (1) = 1 ∧ Rat.ofE (x - 1000000) (1) = 0)) (hr : Rat.right p q = true) (p1 : -1000000000 ≤ p) (p2 : p ≤ 1000000000) (hm : (wrap64 (p * (1 + y)) == wrap64 ((x - 1000000) * q)) = true) : Calls Tryd.prog 4 #[.int .i64 num, .int .i64 den, .int .i64 by'] w fun e w' => e = .returned (.bool true) ∧ Below w.heap.size w w' := by
  have hgR := guardR
  have heq := eql_rt
  have hself := eqR_self
  have hB0 : Below w.heap.size w w := Below.refl _ _
  go_enter Tryd.func4, Tryd.ntmps4
  go_wp2_with fail
  refine (examples_any _ hR).mono ?_
  rintro e w1 ⟨rfl, hb1⟩
  have hs1 := hb1
  have hB1 := below_two hB0 hs1
  replace hR := hR.below hs1
  clear hB0 hs1
  go_wp2_with fail
  refine (pick_any _ _ _ in1 (by omega) (by omega)).mono ?_
  rintro e w' ⟨rfl, rfl⟩
  rw [HN.out]
  go_wp2_with fail
  refine (pick_any _ _ _ in2 (by omega) (by omega)).mono ?_
  rintro e w' ⟨rfl, rfl⟩
  rw [HD.out]
  go_wp2_with fail
  refine (pick_any _ _ _ in3 (by omega) (by omega)).mono ?_
  rintro e w' ⟨rfl, rfl⟩
  rw [HK.out]
  go_wp2_with fail
  refine (of_any _ _ _ j5 j6).mono ?_
  rintro e w2 ⟨rfl, hb2⟩
  have hs2 := hb2
  have hB2 := below_two hB1 hs2
  clear hB1 hs2
  rw [H1.out.1, H1.out.2.1, H1.out.2.2]
  go_wp2_with fail
  refine (of_any _ _ _ j1 j2).mono ?_
  rintro e w3 ⟨rfl, hb3⟩
  have hs3 : Below w2.heap.size w2 w3 := Below.trans (by repeat (first | exact Below.refl _ _ | refine Below.alloc ?_ (by simp <;> omega) _)) (hb3.mono (by simp <;> omega))
  have c_a_0 : w3.cell? ⟨w2.heap.size, 0, none⟩ = some (.int .i64 (p)) := (hb3.cell (by simp <;> omega)).trans (by go_simp)
  have c_a_1 : w3.cell? ⟨w2.heap.size, 1, none⟩ = some (.int .i64 (q)) := (hb3.cell (by simp <;> omega)).trans (by go_simp)
  have z_a := World.block_lt_of_cell? _ _ c_a_0
  have hB3 := below_two hB2 hs3
  clear hB2 hs3 hb3
  rw [H2.out.1, H2.out.2.1, H2.out.2.2]
  go_wp2_with fail
  refine (of_any _ _ _ j3 j4).mono ?_
  rintro e w4 ⟨rfl, hb4⟩
  have hs4 : Below w3.heap.size w3 w4 := Below.trans (by repeat (first | exact Below.refl _ _ | refine Below.alloc ?_ (by simp <;> omega) _)) (hb4.mono (by simp <;> omega))
  replace c_a_0 := cell_later hs4 c_a_0
  replace c_a_1 := cell_later hs4 c_a_1
  have c_b_0 : w4.cell? ⟨w3.heap.size, 0, none⟩ = some (.int .i64 (p)) := (hb4.cell (by simp <;> omega)).trans (by go_simp)
  have c_b_1 : w4.cell? ⟨w3.heap.size, 1, none⟩ = some (.int .i64 (q)) := (hb4.cell (by simp <;> omega)).trans (by go_simp)
  clear z_a
  have z_a := World.block_lt_of_cell? _ _ c_a_0
  have z_b := World.block_lt_of_cell? _ _ c_b_0
  have hB4 := below_two hB3 hs4
  clear hB3 hs4 hb4
  rw [H3.out.1, H3.out.2.1, H3.out.2.2]
  go_wp2_with fail
  refine (of_any _ _ _ j7 j6).mono ?_
  rintro e w5 ⟨rfl, hb5⟩
  have hs5 : Below w4.heap.size w4 w5 := Below.trans (by repeat (first | exact Below.refl _ _ | refine Below.alloc ?_ (by simp <;> omega) _)) (hb5.mono (by simp <;> omega))
  replace c_a_0 := cell_later hs5 c_a_0
  replace c_a_1 := cell_later hs5 c_a_1
  replace c_b_0 := cell_later hs5 c_b_0
  replace c_b_1 := cell_later hs5 c_b_1
  have c_c_0 : w5.cell? ⟨w4.heap.size, 0, none⟩ = some (.int .i64 (p)) := (hb5.cell (by simp <;> omega)).trans (by go_simp)
  have c_c_1 : w5.cell? ⟨w4.heap.size, 1, none⟩ = some (.int .i64 (q)) := (hb5.cell (by simp <;> omega)).trans (by go_simp)
  clear z_a
  have z_a := World.block_lt_of_cell? _ _ c_a_0
  clear z_b
  have z_b := World.block_lt_of_cell? _ _ c_b_0
  have z_c := World.block_lt_of_cell? _ _ c_c_0
  have hB5 := below_two hB4 hs5
  clear hB4 hs5 hb5
  rw [H4.out.1, H4.out.2.1, H4.out.2.2]
  go_wp2_with fail
  refine (of_any _ _ _ j5 j8).mono ?_
  rintro e w6 ⟨rfl, hb6⟩
  have hs6 : Below w5.heap.size w5 w6 := Below.trans (by repeat (first | exact Below.refl _ _ | refine Below.alloc ?_ (by simp <;> omega) _)) (hb6.mono (by simp <;> omega))
  replace c_a_0 := cell_later hs6 c_a_0
  replace c_a_1 := cell_later hs6 c_a_1
  replace c_b_0 := cell_later hs6 c_b_0
  replace c_b_1 := cell_later hs6 c_b_1
  replace c_c_0 := cell_later hs6 c_c_0
  replace c_c_1 := cell_later hs6 c_c_1
  have c_m_0 : w6.cell? ⟨w5.heap.size, 0, none⟩ = some (.int .i64 (-p)) := (hb6.cell (by simp <;> omega)).trans (by go_simp)
  have c_m_1 : w6.cell? ⟨w5.heap.size, 1, none⟩ = some (.int .i64 (q)) := (hb6.cell (by simp <;> omega)).trans (by go_simp)
  clear z_a
  have z_a := World.block_lt_of_cell? _ _ c_a_0
  clear z_b
  have z_b := World.block_lt_of_cell? _ _ c_b_0
  clear z_c
  have z_c := World.block_lt_of_cell? _ _ c_c_0
  have z_m := World.block_lt_of_cell? _ _ c_m_0
  have hB6 := below_two hB5 hs6
  clear hB5 hs6 hb6
  rw [H5.out.1, H5.out.2.1, H5.out.2.2]
  go_wp2_with fail
  refine (ratio_right _ _ _).mono ?_
  rintro e w7 ⟨rfl, hb7⟩
  have hs7 : Below w6.heap.size w6 w7 := Below.trans (by repeat (first | exact Below.refl _ _ | refine Below.alloc ?_ (by simp <;> omega) _)) (hb7.mono (by simp <;> omega))
  replace c_a_0 := cell_later hs7 c_a_0
  replace c_a_1 := cell_later hs7 c_a_1
  replace c_b_0 := cell_later hs7 c_b_0
  replace c_b_1 := cell_later hs7 c_b_1
  replace c_c_0 := cell_later hs7 c_c_0
  replace c_c_1 := cell_later hs7 c_c_1
  replace c_m_0 := cell_later hs7 c_m_0
  replace c_m_1 := cell_later hs7 c_m_1
  have c_w0_0 : w7.cell? ⟨w6.heap.size, 0, none⟩ = some (.int .i64 (x - 1000000)) := (hb7.cell (by simp <;> omega)).trans (by go_simp)
  have c_w0_1 : w7.cell? ⟨w6.heap.size, 1, none⟩ = some (.int .i64 (1)) := (hb7.cell (by simp <;> omega)).trans (by go_simp)
  clear z_a
  have z_a := World.block_lt_of_cell? _ _ c_a_0
  clear z_b
  have z_b := World.block_lt_of_cell? _ _ c_b_0
  clear z_c
  have z_c := World.block_lt_of_cell? _ _ c_c_0
  clear z_m
  have z_m := World.block_lt_of_cell? _ _ c_m_0
  have z_w0 := World.block_lt_of_cell? _ _ c_w0_0
  have hB7 := below_two hB6 hs7
  clear hB6 hs7 hb7
  rw [hr]
  go_wp2
  go_ret
  exact ⟨rfl, hB7⟩

theorem lowest_mul {n k : Int} (n0 : -1000000 ≤ n) (n1 : n ≤ 1000000) (k0 : 1 ≤ k) (k1 : k ≤ 1000000) : wrap64 (n * k) = n * k ∧ Rat.I64 (n * k) := by
  have h : (n * k).natAbs ≤ 1000000 * 1000000 := by rw [Int.natAbs_mul]; exact Nat.mul_le_mul (by omega) (by omega)
  unfold Rat.I64 wrap64; omega
theorem of_three {n d p q : Int} (hd : d ≠ 0) (h : Rat.IsRight p q) (e : p * d = n * q) : Rat.ofN n d = p ∧ Rat.ofD n d = q ∧ Rat.ofE n d = 0 :=
  let ⟨a, b, c⟩ := Rat.of_complete hd h e; ⟨b, c, a⟩

theorem ratioLowest_calls (num den by' : Int) (in1 : Rat.I64 num) (in2 : Rat.I64 den) (in3 : Rat.I64 by') (w : World) (hR : Ready w) : LawHolds 4 #[.int .i64 num, .int .i64 den, .int .i64 by'] w := by
  obtain ⟨x0, x1⟩ := pickS_bounds num (n := 2000001) (by decide)
  obtain ⟨y0, y1⟩ := pickS_bounds den (n := 1000000) (by decide)
  obtain ⟨z0, z1⟩ := pickS_bounds by' (n := 1000000) (by decide)
  generalize hx : pickS num 2000001 = x at *
  generalize hy : pickS den 1000000 = y at *
  generalize hz : pickS by' 1000000 = z at *
  have hE : Rat.ofE (x - 1000000) (1 + y) = 0 := of_small (by omega) (by omega) (by omega) (by omega)
  obtain ⟨hr, he, hd0⟩ := Rat.of_sound hE
  generalize hp : Rat.ofN (x - 1000000) (1 + y) = p at *
  generalize hq : Rat.ofD (x - 1000000) (1 + y) = q at *
  have hk0 : (1 + z) ≠ 0 := by omega
  obtain ⟨b1, b2, b3, b4⟩ := right_bounds hr
  obtain ⟨e1, j1⟩ := lowest_mul (n := x - 1000000) (k := 1 + z) (by omega) (by omega) (by omega) (by omega)
  obtain ⟨e2, j2⟩ := lowest_mul (n := 1 + y) (k := 1 + z) (by omega) (by omega) (by omega) (by omega)
  obtain ⟨e3, j3⟩ := lowest_mul (n := -(x - 1000000)) (k := 1 + z) (by omega) (by omega) (by omega) (by omega)
  obtain ⟨e4, j4⟩ := lowest_mul (n := -(1 + y)) (k := 1 + z) (by omega) (by omega) (by omega) (by omega)
  refine lowest_w num den by' x y z p q _ _ _ _ w hR in1 in2 in3 j1 j2 j3 j4 (i64_small (by omega) (by omega)) (i64_small (by omega) (by omega)) (i64_small (by omega) (by omega)) (i64_small (by omega) (by omega)) (Lib.hid hx) (Lib.hid hy) (Lib.hid hz) x0 (by omega) y0 (by omega) z0 (by omega) e1 e2 e3 e4
    (Lib.hid ⟨hp, hq, hE⟩) (Lib.hid (of_three (mul_ne hd0 hk0) hr ?_)) (Lib.hid (of_three (mul_ne (by omega) hk0) hr ?_)) (Lib.hid (of_three hd0 (neg_right hr) ?_)) (Lib.hid (of_three (by decide) ?_ rfl)) (right_true hr) b3 b4 ?_
  · generalize x - 1000000 = n at *; generalize 1 + y = d at *; grind
  · generalize x - 1000000 = n at *; generalize 1 + y = d at *; grind
  · generalize x - 1000000 = n at *; generalize 1 + y = d at *; grind
  · have hM := Rat.M_eq; exact ⟨by omega, by omega, by omega, by omega, by simp⟩
  · rw [he]; simp
end Go.Proofs.YtgndmaihhkhnpaaDoor
