/-
  told holds: all that is told of two ratios is as the reference tells it.
-/
import Derived.Test.YtgndmaihhkhnpaaDoorRatR1
import Derived.Test.YtgndmaihhkhnpaaDoorRatR5
namespace Go.Proofs.YtgndmaihhkhnpaaDoor
open Go.RowKit

set_option maxRecDepth 100000 in
set_option maxHeartbeats 4000000 in
theorem told_w (a b c d s1 s2 s3 d1 d2 d3 m1 m2 m3 q1 q2 q3 fl fe cv : Int) (T : List UInt8) (r : Bool) (w : World) (hR : Ready w) (ha : Rat.I64 a) (hb : Rat.I64 b) (hc : Rat.I64 c) (hd : Rat.I64 d) (S : Hid (binN (Rat.right a b && Rat.right c d) (a * d + c * b) (b * d) = s1 ∧ binD (Rat.right a b && Rat.right c d) (a * d + c * b) (b * d) = s2 ∧ binE (Rat.right a b && Rat.right c d) (a * d + c * b) (b * d) = s3)) (D : Hid (binN (Rat.right a b && Rat.right c d) (a * d - c * b) (b * d) = d1 ∧ binD (Rat.right a b && Rat.right c d) (a * d - c * b) (b * d) = d2 ∧ binE (Rat.right a b && Rat.right c d) (a * d - c * b) (b * d) = d3)) (M : Hid (binN (Rat.right a b && Rat.right c d) (a * c) (b * d) = m1 ∧ binD (Rat.right a b && Rat.right c d) (a * c) (b * d) = m2 ∧ binE (Rat.right a b && Rat.right c d) (a * c) (b * d) = m3)) (Q : Hid (binN (Rat.right a b && Rat.right c d) (a * d) (b * c) = q1 ∧ binD (Rat.right a b && Rat.right c d) (a * d) (b * c) = q2 ∧ binE (Rat.right a b && Rat.right c d) (a * d) (b * c) = q3)) (HF : Hid (floorV (Rat.right a b) a b = fl)) (HE : Hid (floorE (Rat.right a b) = fe)) (HT : Hid (txtV (Rat.right a b) a b = T)) (HRt : Hid (Rat.right a b = r)) (HC : Hid (cmpV (Rat.right a b && Rat.right c d) (a * d - c * b) = cv)) : Calls Tryd.prog 16 #[rt a b, rt c d] w fun e w' => e = .returned (.bool true) ∧ Below w.heap.size w w' := by
  have hgR := guardR
  have heq := eql_rt
  have hne := neq_rt
  have hself := eqR_self
  have hB0 : Below w.heap.size w w := Below.refl _ _
  go_enter Tryd.func16, Tryd.ntmps16
  go_wp2_with fail
  refine (add_any _ _ _ _ _).mono ?_
  rintro e w1 ⟨rfl, hb1⟩
  have hs1 : Below w.heap.size w w1 := Below.trans (by repeat (first | exact Below.refl _ _ | refine Below.alloc ?_ (by simp <;> omega) _)) (hb1.mono (by simp <;> omega))
  have c_p_0 : w1.cell? ⟨w.heap.size, 0, none⟩ = some (.int .i64 a) := (hb1.cell (by simp <;> omega)).trans (by go_simp)
  have c_p_1 : w1.cell? ⟨w.heap.size, 1, none⟩ = some (.int .i64 b) := (hb1.cell (by simp <;> omega)).trans (by go_simp)
  have c_p2_0 : w1.cell? ⟨w.heap.size + 1, 0, none⟩ = some (.int .i64 c) := (hb1.cell (by simp <;> omega)).trans (by go_simp)
  have c_p2_1 : w1.cell? ⟨w.heap.size + 1, 1, none⟩ = some (.int .i64 d) := (hb1.cell (by simp <;> omega)).trans (by go_simp)
  have z_p := World.block_lt_of_cell? _ _ c_p_0
  have z_p2 := World.block_lt_of_cell? _ _ c_p2_0
  have hB1 := below_two hB0 hs1
  replace hR := hR.below hs1
  clear hB0 hs1 hb1
  rw [S.out.1, S.out.2.1, S.out.2.2]
  go_wp2_with fail
  refine (refAdd_any _ _ _ _ _ ha hb hc hd).mono ?_
  rintro e w2 ⟨rfl, hb2⟩
  have hs2 : Below w1.heap.size w1 w2 := Below.trans (by repeat (first | exact Below.refl _ _ | refine Below.alloc ?_ (by simp <;> omega) _)) (hb2.mono (by simp <;> omega))
  replace c_p_0 := cell_later hs2 c_p_0
  replace c_p_1 := cell_later hs2 c_p_1
  replace c_p2_0 := cell_later hs2 c_p2_0
  replace c_p2_1 := cell_later hs2 c_p2_1
  have c_sx_0 : w2.cell? ⟨w1.heap.size, 0, none⟩ = some (.int .i64 s1) := (hb2.cell (by simp <;> omega)).trans (by go_simp)
  have c_sx_1 : w2.cell? ⟨w1.heap.size, 1, none⟩ = some (.int .i64 s2) := (hb2.cell (by simp <;> omega)).trans (by go_simp)
  clear z_p
  have z_p := World.block_lt_of_cell? _ _ c_p_0
  clear z_p2
  have z_p2 := World.block_lt_of_cell? _ _ c_p2_0
  have z_sx := World.block_lt_of_cell? _ _ c_sx_0
  have hB2 := below_two hB1 hs2
  replace hR := hR.below hs2
  clear hB1 hs2 hb2
  rw [S.out.1, S.out.2.1, S.out.2.2]
  go_wp2_with fail
  refine (sub_any _ _ _ _ _).mono ?_
  rintro e w3 ⟨rfl, hb3⟩
  have hs3 : Below w2.heap.size w2 w3 := Below.trans (by repeat (first | exact Below.refl _ _ | refine Below.alloc ?_ (by simp <;> omega) _)) (hb3.mono (by simp <;> omega))
  replace c_p_0 := cell_later hs3 c_p_0
  replace c_p_1 := cell_later hs3 c_p_1
  replace c_p2_0 := cell_later hs3 c_p2_0
  replace c_p2_1 := cell_later hs3 c_p2_1
  replace c_sx_0 := cell_later hs3 c_sx_0
  replace c_sx_1 := cell_later hs3 c_sx_1
  have c_sy_0 : w3.cell? ⟨w2.heap.size, 0, none⟩ = some (.int .i64 s1) := (hb3.cell (by simp <;> omega)).trans (by go_simp)
  have c_sy_1 : w3.cell? ⟨w2.heap.size, 1, none⟩ = some (.int .i64 s2) := (hb3.cell (by simp <;> omega)).trans (by go_simp)
  clear z_p
  have z_p := World.block_lt_of_cell? _ _ c_p_0
  clear z_p2
  have z_p2 := World.block_lt_of_cell? _ _ c_p2_0
  clear z_sx
  have z_sx := World.block_lt_of_cell? _ _ c_sx_0
  have z_sy := World.block_lt_of_cell? _ _ c_sy_0
  have hB3 := below_two hB2 hs3
  replace hR := hR.below hs3
  clear hB2 hs3 hb3
  rw [D.out.1, D.out.2.1, D.out.2.2]
  go_wp2_with fail
  refine (refSub_any _ _ _ _ _ ha hb hc hd).mono ?_
  rintro e w4 ⟨rfl, hb4⟩
  have hs4 : Below w3.heap.size w3 w4 := Below.trans (by repeat (first | exact Below.refl _ _ | refine Below.alloc ?_ (by simp <;> omega) _)) (hb4.mono (by simp <;> omega))
  replace c_p_0 := cell_later hs4 c_p_0
  replace c_p_1 := cell_later hs4 c_p_1
  replace c_p2_0 := cell_later hs4 c_p2_0
  replace c_p2_1 := cell_later hs4 c_p2_1
  replace c_sx_0 := cell_later hs4 c_sx_0
  replace c_sx_1 := cell_later hs4 c_sx_1
  replace c_sy_0 := cell_later hs4 c_sy_0
  replace c_sy_1 := cell_later hs4 c_sy_1
  have c_dx_0 : w4.cell? ⟨w3.heap.size, 0, none⟩ = some (.int .i64 d1) := (hb4.cell (by simp <;> omega)).trans (by go_simp)
  have c_dx_1 : w4.cell? ⟨w3.heap.size, 1, none⟩ = some (.int .i64 d2) := (hb4.cell (by simp <;> omega)).trans (by go_simp)
  have z_dx := World.block_lt_of_cell? _ _ c_dx_0
  clear z_p
  have z_p := World.block_lt_of_cell? _ _ c_p_0
  clear z_p2
  have z_p2 := World.block_lt_of_cell? _ _ c_p2_0
  clear z_sx
  have z_sx := World.block_lt_of_cell? _ _ c_sx_0
  clear z_sy
  have z_sy := World.block_lt_of_cell? _ _ c_sy_0
  have hB4 := below_two hB3 hs4
  replace hR := hR.below hs4
  clear hB3 hs4 hb4
  rw [D.out.1, D.out.2.1, D.out.2.2]
  go_wp2_with fail
  refine (mul_any _ _ _ _ _).mono ?_
  rintro e w5 ⟨rfl, hb5⟩
  have hs5 : Below w4.heap.size w4 w5 := Below.trans (by repeat (first | exact Below.refl _ _ | refine Below.alloc ?_ (by simp <;> omega) _)) (hb5.mono (by simp <;> omega))
  replace c_p_0 := cell_later hs5 c_p_0
  replace c_p_1 := cell_later hs5 c_p_1
  replace c_p2_0 := cell_later hs5 c_p2_0
  replace c_p2_1 := cell_later hs5 c_p2_1
  replace c_sx_0 := cell_later hs5 c_sx_0
  replace c_sx_1 := cell_later hs5 c_sx_1
  replace c_sy_0 := cell_later hs5 c_sy_0
  replace c_sy_1 := cell_later hs5 c_sy_1
  replace c_dx_0 := cell_later hs5 c_dx_0
  replace c_dx_1 := cell_later hs5 c_dx_1
  have c_dy_0 : w5.cell? ⟨w4.heap.size, 0, none⟩ = some (.int .i64 d1) := (hb5.cell (by simp <;> omega)).trans (by go_simp)
  have c_dy_1 : w5.cell? ⟨w4.heap.size, 1, none⟩ = some (.int .i64 d2) := (hb5.cell (by simp <;> omega)).trans (by go_simp)
  clear z_dx
  have z_dx := World.block_lt_of_cell? _ _ c_dx_0
  have z_dy := World.block_lt_of_cell? _ _ c_dy_0
  clear z_p
  have z_p := World.block_lt_of_cell? _ _ c_p_0
  clear z_p2
  have z_p2 := World.block_lt_of_cell? _ _ c_p2_0
  clear z_sx
  have z_sx := World.block_lt_of_cell? _ _ c_sx_0
  clear z_sy
  have z_sy := World.block_lt_of_cell? _ _ c_sy_0
  have hB5 := below_two hB4 hs5
  replace hR := hR.below hs5
  clear hB4 hs5 hb5
  rw [M.out.1, M.out.2.1, M.out.2.2]
  go_wp2_with fail
  refine (refMul_any _ _ _ _ _ ha hb hc hd).mono ?_
  rintro e w6 ⟨rfl, hb6⟩
  have hs6 : Below w5.heap.size w5 w6 := Below.trans (by repeat (first | exact Below.refl _ _ | refine Below.alloc ?_ (by simp <;> omega) _)) (hb6.mono (by simp <;> omega))
  replace c_p_0 := cell_later hs6 c_p_0
  replace c_p_1 := cell_later hs6 c_p_1
  replace c_p2_0 := cell_later hs6 c_p2_0
  replace c_p2_1 := cell_later hs6 c_p2_1
  replace c_sx_0 := cell_later hs6 c_sx_0
  replace c_sx_1 := cell_later hs6 c_sx_1
  replace c_sy_0 := cell_later hs6 c_sy_0
  replace c_sy_1 := cell_later hs6 c_sy_1
  replace c_dx_0 := cell_later hs6 c_dx_0
  replace c_dx_1 := cell_later hs6 c_dx_1
  replace c_dy_0 := cell_later hs6 c_dy_0
  replace c_dy_1 := cell_later hs6 c_dy_1
  have c_mx_0 : w6.cell? ⟨w5.heap.size, 0, none⟩ = some (.int .i64 m1) := (hb6.cell (by simp <;> omega)).trans (by go_simp)
  have c_mx_1 : w6.cell? ⟨w5.heap.size, 1, none⟩ = some (.int .i64 m2) := (hb6.cell (by simp <;> omega)).trans (by go_simp)
  clear z_dx
  have z_dx := World.block_lt_of_cell? _ _ c_dx_0
  clear z_dy
  have z_dy := World.block_lt_of_cell? _ _ c_dy_0
  have z_mx := World.block_lt_of_cell? _ _ c_mx_0
  clear z_p
  have z_p := World.block_lt_of_cell? _ _ c_p_0
  clear z_p2
  have z_p2 := World.block_lt_of_cell? _ _ c_p2_0
  clear z_sx
  have z_sx := World.block_lt_of_cell? _ _ c_sx_0
  clear z_sy
  have z_sy := World.block_lt_of_cell? _ _ c_sy_0
  have hB6 := below_two hB5 hs6
  replace hR := hR.below hs6
  clear hB5 hs6 hb6
  rw [M.out.1, M.out.2.1, M.out.2.2]
  go_wp2_with fail
  refine (div_any _ _ _ _ _).mono ?_
  rintro e w7 ⟨rfl, hb7⟩
  have hs7 : Below w6.heap.size w6 w7 := Below.trans (by repeat (first | exact Below.refl _ _ | refine Below.alloc ?_ (by simp <;> omega) _)) (hb7.mono (by simp <;> omega))
  replace c_p_0 := cell_later hs7 c_p_0
  replace c_p_1 := cell_later hs7 c_p_1
  replace c_p2_0 := cell_later hs7 c_p2_0
  replace c_p2_1 := cell_later hs7 c_p2_1
  replace c_sx_0 := cell_later hs7 c_sx_0
  replace c_sx_1 := cell_later hs7 c_sx_1
  replace c_sy_0 := cell_later hs7 c_sy_0
  replace c_sy_1 := cell_later hs7 c_sy_1
  replace c_dx_0 := cell_later hs7 c_dx_0
  replace c_dx_1 := cell_later hs7 c_dx_1
  replace c_dy_0 := cell_later hs7 c_dy_0
  replace c_dy_1 := cell_later hs7 c_dy_1
  replace c_mx_0 := cell_later hs7 c_mx_0
  replace c_mx_1 := cell_later hs7 c_mx_1
  have c_my_0 : w7.cell? ⟨w6.heap.size, 0, none⟩ = some (.int .i64 m1) := (hb7.cell (by simp <;> omega)).trans (by go_simp)
  have c_my_1 : w7.cell? ⟨w6.heap.size, 1, none⟩ = some (.int .i64 m2) := (hb7.cell (by simp <;> omega)).trans (by go_simp)
  clear z_dx
  have z_dx := World.block_lt_of_cell? _ _ c_dx_0
  clear z_dy
  have z_dy := World.block_lt_of_cell? _ _ c_dy_0
  clear z_mx
  have z_mx := World.block_lt_of_cell? _ _ c_mx_0
  have z_my := World.block_lt_of_cell? _ _ c_my_0
  clear z_p
  have z_p := World.block_lt_of_cell? _ _ c_p_0
  clear z_p2
  have z_p2 := World.block_lt_of_cell? _ _ c_p2_0
  clear z_sx
  have z_sx := World.block_lt_of_cell? _ _ c_sx_0
  clear z_sy
  have z_sy := World.block_lt_of_cell? _ _ c_sy_0
  have hB7 := below_two hB6 hs7
  replace hR := hR.below hs7
  clear hB6 hs7 hb7
  rw [Q.out.1, Q.out.2.1, Q.out.2.2]
  go_wp2_with fail
  refine (refDiv_any _ _ _ _ _ ha hb hc hd).mono ?_
  rintro e w8 ⟨rfl, hb8⟩
  have hs8 : Below w7.heap.size w7 w8 := Below.trans (by repeat (first | exact Below.refl _ _ | refine Below.alloc ?_ (by simp <;> omega) _)) (hb8.mono (by simp <;> omega))
  replace c_p_0 := cell_later hs8 c_p_0
  replace c_p_1 := cell_later hs8 c_p_1
  replace c_p2_0 := cell_later hs8 c_p2_0
  replace c_p2_1 := cell_later hs8 c_p2_1
  replace c_sx_0 := cell_later hs8 c_sx_0
  replace c_sx_1 := cell_later hs8 c_sx_1
  replace c_sy_0 := cell_later hs8 c_sy_0
  replace c_sy_1 := cell_later hs8 c_sy_1
  replace c_dx_0 := cell_later hs8 c_dx_0
  replace c_dx_1 := cell_later hs8 c_dx_1
  replace c_dy_0 := cell_later hs8 c_dy_0
  replace c_dy_1 := cell_later hs8 c_dy_1
  replace c_mx_0 := cell_later hs8 c_mx_0
  replace c_mx_1 := cell_later hs8 c_mx_1
  replace c_my_0 := cell_later hs8 c_my_0
  replace c_my_1 := cell_later hs8 c_my_1
  have c_qx_0 : w8.cell? ⟨w7.heap.size, 0, none⟩ = some (.int .i64 q1) := (hb8.cell (by simp <;> omega)).trans (by go_simp)
  have c_qx_1 : w8.cell? ⟨w7.heap.size, 1, none⟩ = some (.int .i64 q2) := (hb8.cell (by simp <;> omega)).trans (by go_simp)
  clear z_dx
  have z_dx := World.block_lt_of_cell? _ _ c_dx_0
  clear z_dy
  have z_dy := World.block_lt_of_cell? _ _ c_dy_0
  clear z_mx
  have z_mx := World.block_lt_of_cell? _ _ c_mx_0
  clear z_my
  have z_my := World.block_lt_of_cell? _ _ c_my_0
  clear z_p
  have z_p := World.block_lt_of_cell? _ _ c_p_0
  clear z_p2
  have z_p2 := World.block_lt_of_cell? _ _ c_p2_0
  have z_qx := World.block_lt_of_cell? _ _ c_qx_0
  clear z_sx
  have z_sx := World.block_lt_of_cell? _ _ c_sx_0
  clear z_sy
  have z_sy := World.block_lt_of_cell? _ _ c_sy_0
  have hB8 := below_two hB7 hs8
  replace hR := hR.below hs8
  clear hB7 hs8 hb8
  rw [Q.out.1, Q.out.2.1, Q.out.2.2]
  go_wp2_with fail
  refine (floor_any _ _ _).mono ?_
  rintro e w9 ⟨rfl, hb9⟩
  have hs9 : Below w8.heap.size w8 w9 := Below.trans (by repeat (first | exact Below.refl _ _ | refine Below.alloc ?_ (by simp <;> omega) _)) (hb9.mono (by simp <;> omega))
  clear c_sx_0
  clear c_sx_1
  clear c_sy_0
  clear c_sy_1
  clear c_dx_0
  clear c_dx_1
  clear c_dy_0
  clear c_dy_1
  clear c_mx_0
  clear c_mx_1
  clear c_my_0
  clear c_my_1
  clear c_qx_0
  clear c_qx_1
  replace c_p_0 := cell_later hs9 c_p_0
  replace c_p_1 := cell_later hs9 c_p_1
  replace c_p2_0 := cell_later hs9 c_p2_0
  replace c_p2_1 := cell_later hs9 c_p2_1
  clear z_p
  have z_p := World.block_lt_of_cell? _ _ c_p_0
  clear z_p2
  have z_p2 := World.block_lt_of_cell? _ _ c_p2_0
  clear z_dx
  clear z_dy
  clear z_mx
  clear z_my
  clear z_qx
  clear z_sx
  clear z_sy
  have hB9 := below_two hB8 hs9
  replace hR := hR.below hs9
  clear hB8 hs9 hb9
  rw [HF.out, HE.out]
  go_wp2_with fail
  refine (refFloor_any _ _ _ ha hb).mono ?_
  rintro e w10 ⟨rfl, hb10⟩
  have hs10 := hb10
  replace c_p_0 := cell_later hs10 c_p_0
  replace c_p_1 := cell_later hs10 c_p_1
  replace c_p2_0 := cell_later hs10 c_p2_0
  replace c_p2_1 := cell_later hs10 c_p2_1
  clear z_p
  have z_p := World.block_lt_of_cell? _ _ c_p_0
  clear z_p2
  have z_p2 := World.block_lt_of_cell? _ _ c_p2_0
  have hB10 := below_two hB9 hs10
  replace hR := hR.below hs10
  clear hB9 hs10
  rw [HF.out, HE.out]
  go_wp2_with fail
  refine (text_any _ _ _ hR).mono ?_
  rintro e w11 ⟨rfl, hb11⟩
  have hs11 := hb11
  replace c_p_0 := cell_later hs11 c_p_0
  replace c_p_1 := cell_later hs11 c_p_1
  replace c_p2_0 := cell_later hs11 c_p2_0
  replace c_p2_1 := cell_later hs11 c_p2_1
  clear z_p
  have z_p := World.block_lt_of_cell? _ _ c_p_0
  clear z_p2
  have z_p2 := World.block_lt_of_cell? _ _ c_p2_0
  have hB11 := below_two hB10 hs11
  replace hR := hR.below hs11
  clear hB10 hs11
  rw [HT.out, HE.out]
  go_wp2_with fail
  refine (refText_any _ _ _ ha hb).mono ?_
  rintro e w12 ⟨rfl, hb12⟩
  have hs12 := hb12
  replace c_p_0 := cell_later hs12 c_p_0
  replace c_p_1 := cell_later hs12 c_p_1
  replace c_p2_0 := cell_later hs12 c_p2_0
  replace c_p2_1 := cell_later hs12 c_p2_1
  clear z_p
  have z_p := World.block_lt_of_cell? _ _ c_p_0
  clear z_p2
  have z_p2 := World.block_lt_of_cell? _ _ c_p2_0
  have hB12 := below_two hB11 hs12
  clear hB11 hs12
  rw [HT.out, HE.out]
  clear hR
  go_wp2_with fail
  go_region_held3 (fun w' => w'.cell? ⟨w.heap.size, 0, none⟩ = some (.int .i64 a) ∧ w'.cell? ⟨w.heap.size, 1, none⟩ = some (.int .i64 b) ∧ w'.cell? ⟨w.heap.size + 1, 0, none⟩ = some (.int .i64 c) ∧ w'.cell? ⟨w.heap.size + 1, 1, none⟩ = some (.int .i64 d) ∧ Below w.heap.size w w')
    (((try go_split_ands); refine ⟨?_, ?_, ?_, ?_, ?_⟩ <;> first | assumption | (refine cell_later hq ?_; assumption) | (refine below_two ?_ hq; assumption) | exact c_p_0 | exact c_p_1 | exact c_p2_0 | exact c_p2_1 | exact hB12.drew))
    (first
      | (go_at_call 19; refine (ratio_right _ _ _).mono ?_; rintro e w' ⟨rfl, hq⟩; rw [HRt.out])
      | (go_at_call 40; refine (refRight_any _ _ _ ha hb).mono ?_; rintro e w' ⟨rfl, hq⟩; rw [HRt.out])
      | (go_at_call 24; refine (compare_any _ _ _ _ _).mono ?_; rintro e w' ⟨rfl, hq⟩; rw [HC.out])
      | (go_at_call 41; refine (refCompare_any _ _ _ _ _ ha hb hc hd).mono ?_; rintro e w' ⟨rfl, hq⟩; rw [HC.out]))
  rename_i hS
  obtain ⟨-, -, -, -, hBl⟩ := hS
  go_wp2
  go_ret
  exact ⟨rfl, hBl⟩

theorem told_any (a b c d : Int) (w : World) (ha : Rat.I64 a) (hb : Rat.I64 b) (hc : Rat.I64 c) (hd : Rat.I64 d) (hR : Ready w) : Calls Tryd.prog 16 #[rt a b, rt c d] w fun e w' => e = .returned (.bool true) ∧ Below w.heap.size w w' :=
  told_w a b c d _ _ _ _ _ _ _ _ _ _ _ _ _ _ _ _ _ w hR ha hb hc hd (Lib.hid ⟨rfl, rfl, rfl⟩) (Lib.hid ⟨rfl, rfl, rfl⟩) (Lib.hid ⟨rfl, rfl, rfl⟩) (Lib.hid ⟨rfl, rfl, rfl⟩) (Lib.hid rfl) (Lib.hid rfl) (Lib.hid rfl) (Lib.hid rfl) (Lib.hid rfl)
end Go.Proofs.YtgndmaihhkhnpaaDoor
