/-
  PitchChain holds: the law's walk.
-/
import Derived.Test.YtoopchnncjfjoaaDoorPitI
import Derived.Test.YtoopchnncjfjoaaDoorPitRow
namespace Go.Proofs.YtoopchnncjfjoaaDoor
open Go.RowKit

set_option maxRecDepth 100000 in
set_option maxHeartbeats 4000000 in
theorem chain_none (a1 a2 a3 x1 x2 y1 y2 s b o : Int) (w : World) (hR : Ready w) (HA : Hid (∀ w, Calls Tryd.prog 13 #[pt a1 a2 a3] w fun e w' => e = .returned (pt s b o) ∧ Below w.heap.size w w')) (i1 : Pit.I64 x1) (i2 : Pit.I64 x2) (i3 : Pit.I64 y1) (i4 : Pit.I64 y2) (k1 k2 k3 k4 u1 u2 v1 v2 : Int) (K1 : Hid (pickS x1 31 = k1)) (K2 : Hid (pickS x2 51 = k2)) (K3 : Hid (pickS y1 31 = k3)) (K4 : Hid (pickS y2 51 = k4)) (e1 : IntKind.i64.wrap (k1 - 15) = u1) (e2 : IntKind.i64.wrap (k2 - 25) = u2) (e3 : IntKind.i64.wrap (k3 - 15) = v1) (e4 : IntKind.i64.wrap (k4 - 25) = v2) (HU : Hid (Pit.up s b o u1 u2 = none)) :
    Calls Tryd.prog 7 #[pt a1 a2 a3, iv x1 x2, iv y1 y2] w fun e w' => e = .returned (.bool true) ∧ Below w.heap.size w w' := by
  have hgP := guardP
  have hgI := guardI
  have heP := eql_pt
  have heI := eql_iv
  have hnP := neq_pt
  have hsP := eqP_self
  have hsI := eqI_self
  have hB0 : Below w.heap.size w w := Below.refl _ _
  go_enter Tryd.func7, Tryd.ntmps7
  go_wp2_with fail
  have hR' := hR.below (((hB0.alloc hB0.size (.cells #[.int .i64 a1, .int .i64 a2, .int .i64 a3] 23)).alloc (hB0.alloc hB0.size (.cells #[.int .i64 a1, .int .i64 a2, .int .i64 a3] 23)).size (.cells #[.int .i64 x1, .int .i64 x2] 25)).alloc ((hB0.alloc hB0.size (.cells #[.int .i64 a1, .int .i64 a2, .int .i64 a3] 23)).alloc (hB0.alloc hB0.size (.cells #[.int .i64 a1, .int .i64 a2, .int .i64 a3] 23)).size (.cells #[.int .i64 x1, .int .i64 x2] 25)).size (.cells #[.int .i64 y1, .int .i64 y2] 25))
  refine (awake_any _ hR').mono ?_
  rintro e w1 ⟨rfl, hb1⟩
  clear hR'
  have hs1 : Below w.heap.size w w1 := Below.trans (by repeat (first | exact Below.refl _ _ | refine Below.alloc ?_ (by simp <;> omega) _)) (hb1.mono (by simp <;> omega))
  have c_a_0 : w1.cell? ⟨w.heap.size, 0, none⟩ = some (.int .i64 a1) := (hb1.cell (by simp <;> omega)).trans (by go_simp)
  have c_a_1 : w1.cell? ⟨w.heap.size, 1, none⟩ = some (.int .i64 a2) := (hb1.cell (by simp <;> omega)).trans (by go_simp)
  have c_a_2 : w1.cell? ⟨w.heap.size, 2, none⟩ = some (.int .i64 a3) := (hb1.cell (by simp <;> omega)).trans (by go_simp)
  have c_x_0 : w1.cell? ⟨w.heap.size + 1, 0, none⟩ = some (.int .i64 x1) := (hb1.cell (by simp <;> omega)).trans (by go_simp)
  have c_x_1 : w1.cell? ⟨w.heap.size + 1, 1, none⟩ = some (.int .i64 x2) := (hb1.cell (by simp <;> omega)).trans (by go_simp)
  have c_y_0 : w1.cell? ⟨w.heap.size + 1 + 1, 0, none⟩ = some (.int .i64 y1) := (hb1.cell (by simp <;> omega)).trans (by go_simp)
  have c_y_1 : w1.cell? ⟨w.heap.size + 1 + 1, 1, none⟩ = some (.int .i64 y2) := (hb1.cell (by simp <;> omega)).trans (by go_simp)
  have z_a := World.block_lt_of_cell? _ _ c_a_0
  have z_x := World.block_lt_of_cell? _ _ c_x_0
  have z_y := World.block_lt_of_cell? _ _ c_y_0
  have hB1 := below_two hB0 hs1
  clear hB0 hs1 hb1
  go_wp2_with fail
  have hR' := hR.below hB1
  refine (HA.out _).mono ?_
  rintro e w2 ⟨rfl, hb2⟩
  clear hR'
  have hs2 := hb2
  clear c_a_0
  clear c_a_1
  clear c_a_2
  replace c_x_0 := cell_later hs2 c_x_0
  replace c_x_1 := cell_later hs2 c_x_1
  replace c_y_0 := cell_later hs2 c_y_0
  replace c_y_1 := cell_later hs2 c_y_1
  clear z_x
  have z_x := World.block_lt_of_cell? _ _ c_x_0
  clear z_y
  have z_y := World.block_lt_of_cell? _ _ c_y_0
  clear z_a
  have hB2 := below_two hB1 hs2
  clear hB1 hs2
  go_wp2_with fail
  have hs3 : Below w2.heap.size w2 (w2.alloc (.cells #[.int .i64 s, .int .i64 b, .int .i64 o] 23)) := by repeat (first | exact Below.refl _ _ | refine Below.alloc ?_ (by simp <;> omega) _)
  replace c_x_0 := cell_later hs3 c_x_0
  replace c_x_1 := cell_later hs3 c_x_1
  replace c_y_0 := cell_later hs3 c_y_0
  replace c_y_1 := cell_later hs3 c_y_1
  have c_p_0 : (w2.alloc (.cells #[.int .i64 s, .int .i64 b, .int .i64 o] 23)).cell? ⟨w2.heap.size, 0, none⟩ = some (.int .i64 s) := by go_simp
  have c_p_1 : (w2.alloc (.cells #[.int .i64 s, .int .i64 b, .int .i64 o] 23)).cell? ⟨w2.heap.size, 1, none⟩ = some (.int .i64 b) := by go_simp
  have c_p_2 : (w2.alloc (.cells #[.int .i64 s, .int .i64 b, .int .i64 o] 23)).cell? ⟨w2.heap.size, 2, none⟩ = some (.int .i64 o) := by go_simp
  have hB3 := below_two hB2 hs3
  clear hB2 hs3
  have y3_x := z_x
  have y3_y := z_y
  generalize (w2.alloc (.cells #[.int .i64 s, .int .i64 b, .int .i64 o] 23)) = w3 at *
  have z_p := World.block_lt_of_cell? _ _ c_p_0
  clear z_x
  have z_x := World.block_lt_of_cell? _ _ c_x_0
  clear z_y
  have z_y := World.block_lt_of_cell? _ _ c_y_0
  go_region_held3 (fun w' => w'.cell? ⟨w.heap.size + 1, 0, none⟩ = some (.int .i64 x1) ∧ w'.cell? ⟨w.heap.size + 1, 1, none⟩ = some (.int .i64 x2) ∧ w'.cell? ⟨w.heap.size + 1 + 1, 0, none⟩ = some (.int .i64 y1) ∧ w'.cell? ⟨w.heap.size + 1 + 1, 1, none⟩ = some (.int .i64 y2) ∧ w'.cell? ⟨w2.heap.size, 0, none⟩ = some (.int .i64 s) ∧ w'.cell? ⟨w2.heap.size, 1, none⟩ = some (.int .i64 b) ∧ w'.cell? ⟨w2.heap.size, 2, none⟩ = some (.int .i64 o) ∧ Below w.heap.size w w')
    (((try go_split_ands); refine ⟨?_, ?_, ?_, ?_, ?_, ?_, ?_, ?_⟩ <;> first | with_reducible assumption | (with_reducible refine cell_later hq ?_; with_reducible assumption) | (with_reducible refine below_two ?_ hq; with_reducible assumption) | (with_reducible refine cell_drew (alloc_cell ?_); with_reducible assumption) | (with_reducible refine Below.drew (alloc_below ?_); with_reducible assumption) | with_reducible exact cell_drew c_x_0 | with_reducible exact cell_drew c_x_1 | with_reducible exact cell_drew c_y_0 | with_reducible exact cell_drew c_y_1 | with_reducible exact cell_drew c_p_0 | with_reducible exact cell_drew c_p_1 | with_reducible exact cell_drew c_p_2 | with_reducible exact hB3.drew))
    (first
      | (go_at_call 22; refine (pick_any _ _ _ ?_ ?_ ?_).mono ?_; (first | exact i1 | exact i2 | exact i3 | exact i4); decide; decide; rintro e w4 ⟨rfl, rfl⟩; (first | rw [K1.out] | rw [K2.out] | rw [K3.out] | rw [K4.out])))
  all_goals
    have hs4 : Below w3.heap.size w3 (w3.alloc (.cells #[.int .i64 u1, .int .i64 u2] 25)).drew := ((Below.refl _ _).alloc (Nat.le_refl _) _).drew
    clear c_x_0
    clear c_x_1
    replace c_y_0 := cell_later hs4 c_y_0
    replace c_y_1 := cell_later hs4 c_y_1
    replace c_p_0 := cell_later hs4 c_p_0
    replace c_p_1 := cell_later hs4 c_p_1
    replace c_p_2 := cell_later hs4 c_p_2
    have c_u_0 : (w3.alloc (.cells #[.int .i64 u1, .int .i64 u2] 25)).drew.cell? ⟨w3.heap.size, 0, none⟩ = some (.int .i64 u1) := by go_simp
    have c_u_1 : (w3.alloc (.cells #[.int .i64 u1, .int .i64 u2] 25)).drew.cell? ⟨w3.heap.size, 1, none⟩ = some (.int .i64 u2) := by go_simp
    have hB4 := below_two hB3 hs4
    clear hB3 hs4 z_p z_x z_y
    generalize (w3.alloc (.cells #[.int .i64 u1, .int .i64 u2] 25)).drew = w4 at *
    have z_p := World.block_lt_of_cell? _ _ c_p_0
    have z_u := World.block_lt_of_cell? _ _ c_u_0
    have z_y := World.block_lt_of_cell? _ _ c_y_0
    go_wp2_with fail
    go_region_held3 (fun w' => w'.cell? ⟨w.heap.size + 1 + 1, 0, none⟩ = some (.int .i64 y1) ∧ w'.cell? ⟨w.heap.size + 1 + 1, 1, none⟩ = some (.int .i64 y2) ∧ w'.cell? ⟨w2.heap.size, 0, none⟩ = some (.int .i64 s) ∧ w'.cell? ⟨w2.heap.size, 1, none⟩ = some (.int .i64 b) ∧ w'.cell? ⟨w2.heap.size, 2, none⟩ = some (.int .i64 o) ∧ w'.cell? ⟨w3.heap.size, 0, none⟩ = some (.int .i64 u1) ∧ w'.cell? ⟨w3.heap.size, 1, none⟩ = some (.int .i64 u2) ∧ Below w.heap.size w w')
      (((try go_split_ands); refine ⟨?_, ?_, ?_, ?_, ?_, ?_, ?_, ?_⟩ <;> first | with_reducible assumption | (with_reducible refine cell_later hq ?_; with_reducible assumption) | (with_reducible refine below_two ?_ hq; with_reducible assumption) | (with_reducible refine cell_drew (alloc_cell ?_); with_reducible assumption) | (with_reducible refine Below.drew (alloc_below ?_); with_reducible assumption) | with_reducible exact cell_drew c_y_0 | with_reducible exact cell_drew c_y_1 | with_reducible exact cell_drew c_p_0 | with_reducible exact cell_drew c_p_1 | with_reducible exact cell_drew c_p_2 | with_reducible exact cell_drew c_u_0 | with_reducible exact cell_drew c_u_1 | with_reducible exact hB4.drew))
      (first
        | (go_at_call 22; refine (pick_any _ _ _ ?_ ?_ ?_).mono ?_; (first | exact i1 | exact i2 | exact i3 | exact i4); decide; decide; rintro e w5 ⟨rfl, rfl⟩; (first | rw [K1.out] | rw [K2.out] | rw [K3.out] | rw [K4.out])))
    all_goals
      have hs5 : Below w4.heap.size w4 (w4.alloc (.cells #[.int .i64 v1, .int .i64 v2] 25)).drew := ((Below.refl _ _).alloc (Nat.le_refl _) _).drew
      clear c_y_0
      clear c_y_1
      replace c_p_0 := cell_later hs5 c_p_0
      replace c_p_1 := cell_later hs5 c_p_1
      replace c_p_2 := cell_later hs5 c_p_2
      replace c_u_0 := cell_later hs5 c_u_0
      replace c_u_1 := cell_later hs5 c_u_1
      have c_v_0 : (w4.alloc (.cells #[.int .i64 v1, .int .i64 v2] 25)).drew.cell? ⟨w4.heap.size, 0, none⟩ = some (.int .i64 v1) := by go_simp
      have c_v_1 : (w4.alloc (.cells #[.int .i64 v1, .int .i64 v2] 25)).drew.cell? ⟨w4.heap.size, 1, none⟩ = some (.int .i64 v2) := by go_simp
      have hB5 := below_two hB4 hs5
      clear hB4 hs5 z_p z_u z_y
      generalize (w4.alloc (.cells #[.int .i64 v1, .int .i64 v2] 25)).drew = w5 at *
      have z_p := World.block_lt_of_cell? _ _ c_p_0
      have z_u := World.block_lt_of_cell? _ _ c_u_0
      have z_v := World.block_lt_of_cell? _ _ c_v_0
      go_wp2_with fail
      have hR' := hR.below hB5
      refine (up_any _ _ _ _ _ _ hR').mono ?_
      rintro e w6 ⟨rfl, hb6⟩
      clear hR'
      have hs6 := hb6
      replace c_p_0 := cell_later hs6 c_p_0
      replace c_p_1 := cell_later hs6 c_p_1
      replace c_p_2 := cell_later hs6 c_p_2
      replace c_u_0 := cell_later hs6 c_u_0
      replace c_u_1 := cell_later hs6 c_u_1
      replace c_v_0 := cell_later hs6 c_v_0
      replace c_v_1 := cell_later hs6 c_v_1
      clear z_p
      have z_p := World.block_lt_of_cell? _ _ c_p_0
      clear z_u
      have z_u := World.block_lt_of_cell? _ _ c_u_0
      clear z_v
      have z_v := World.block_lt_of_cell? _ _ c_v_0
      have hB6 := below_two hB5 hs6
      clear hB5 hs6
      rw [HU.out]
      simp only [upV]
      go_wp2
      go_ret
      exact ⟨rfl, (hB6.alloc hB6.size (.cells #[.int .i64 0, .int .i64 0, .int .i64 0] 23))⟩

set_option maxRecDepth 100000 in
set_option maxHeartbeats 4000000 in
theorem chain_both (a1 a2 a3 x1 x2 y1 y2 s b o : Int) (w : World) (hR : Ready w) (HA : Hid (∀ w, Calls Tryd.prog 13 #[pt a1 a2 a3] w fun e w' => e = .returned (pt s b o) ∧ Below w.heap.size w w')) (i1 : Pit.I64 x1) (i2 : Pit.I64 x2) (i3 : Pit.I64 y1) (i4 : Pit.I64 y2) (k1 k2 k3 k4 u1 u2 v1 v2 : Int) (K1 : Hid (pickS x1 31 = k1)) (K2 : Hid (pickS x2 51 = k2)) (K3 : Hid (pickS y1 31 = k3)) (K4 : Hid (pickS y2 51 = k4)) (e1 : IntKind.i64.wrap (k1 - 15) = u1) (e2 : IntKind.i64.wrap (k2 - 25) = u2) (e3 : IntKind.i64.wrap (k3 - 15) = v1) (e4 : IntKind.i64.wrap (k4 - 25) = v2) (b1 : -30 ≤ u1) (b2 : u1 ≤ 30) (b3 : -30 ≤ u2) (b4 : u2 ≤ 30) (b5 : -30 ≤ v1) (b6 : v1 ≤ 30) (b7 : -30 ≤ v2) (b8 : v2 ≤ 30) (t c p : Int) (HU : Hid (Pit.up s b o u1 u2 = some (t, c, p))) (HP : Hid (Pit.right s b o = true)) (HQ : Hid (Pit.right t c p = true)) (H1 : Hid (Pit.lin t p - Pit.lin s o = u1)) (H2 : Hid (Pit.num t c p - Pit.num s b o = u2)) (d e f : Int) (HV : Hid (Pit.up t c p v1 v2 = some (d, e, f))) (HW : Hid (Pit.up s b o (u1 + v1) (u2 + v2) = some (d, e, f))) :
    Calls Tryd.prog 7 #[pt a1 a2 a3, iv x1 x2, iv y1 y2] w fun e w' => e = .returned (.bool true) ∧ Below w.heap.size w w' := by
  have hgP := guardP
  have hgI := guardI
  have heP := eql_pt
  have heI := eql_iv
  have hnP := neq_pt
  have hsP := eqP_self
  have hsI := eqI_self
  have hB0 : Below w.heap.size w w := Below.refl _ _
  go_enter Tryd.func7, Tryd.ntmps7
  go_wp2_with fail
  have hR' := hR.below (((hB0.alloc hB0.size (.cells #[.int .i64 a1, .int .i64 a2, .int .i64 a3] 23)).alloc (hB0.alloc hB0.size (.cells #[.int .i64 a1, .int .i64 a2, .int .i64 a3] 23)).size (.cells #[.int .i64 x1, .int .i64 x2] 25)).alloc ((hB0.alloc hB0.size (.cells #[.int .i64 a1, .int .i64 a2, .int .i64 a3] 23)).alloc (hB0.alloc hB0.size (.cells #[.int .i64 a1, .int .i64 a2, .int .i64 a3] 23)).size (.cells #[.int .i64 x1, .int .i64 x2] 25)).size (.cells #[.int .i64 y1, .int .i64 y2] 25))
  refine (awake_any _ hR').mono ?_
  rintro e w1 ⟨rfl, hb1⟩
  clear hR'
  have hs1 : Below w.heap.size w w1 := Below.trans (by repeat (first | exact Below.refl _ _ | refine Below.alloc ?_ (by simp <;> omega) _)) (hb1.mono (by simp <;> omega))
  have c_a_0 : w1.cell? ⟨w.heap.size, 0, none⟩ = some (.int .i64 a1) := (hb1.cell (by simp <;> omega)).trans (by go_simp)
  have c_a_1 : w1.cell? ⟨w.heap.size, 1, none⟩ = some (.int .i64 a2) := (hb1.cell (by simp <;> omega)).trans (by go_simp)
  have c_a_2 : w1.cell? ⟨w.heap.size, 2, none⟩ = some (.int .i64 a3) := (hb1.cell (by simp <;> omega)).trans (by go_simp)
  have c_x_0 : w1.cell? ⟨w.heap.size + 1, 0, none⟩ = some (.int .i64 x1) := (hb1.cell (by simp <;> omega)).trans (by go_simp)
  have c_x_1 : w1.cell? ⟨w.heap.size + 1, 1, none⟩ = some (.int .i64 x2) := (hb1.cell (by simp <;> omega)).trans (by go_simp)
  have c_y_0 : w1.cell? ⟨w.heap.size + 1 + 1, 0, none⟩ = some (.int .i64 y1) := (hb1.cell (by simp <;> omega)).trans (by go_simp)
  have c_y_1 : w1.cell? ⟨w.heap.size + 1 + 1, 1, none⟩ = some (.int .i64 y2) := (hb1.cell (by simp <;> omega)).trans (by go_simp)
  have z_a := World.block_lt_of_cell? _ _ c_a_0
  have z_x := World.block_lt_of_cell? _ _ c_x_0
  have z_y := World.block_lt_of_cell? _ _ c_y_0
  have hB1 := below_two hB0 hs1
  clear hB0 hs1 hb1
  go_wp2_with fail
  have hR' := hR.below hB1
  refine (HA.out _).mono ?_
  rintro e w2 ⟨rfl, hb2⟩
  clear hR'
  have hs2 := hb2
  clear c_a_0
  clear c_a_1
  clear c_a_2
  replace c_x_0 := cell_later hs2 c_x_0
  replace c_x_1 := cell_later hs2 c_x_1
  replace c_y_0 := cell_later hs2 c_y_0
  replace c_y_1 := cell_later hs2 c_y_1
  clear z_x
  have z_x := World.block_lt_of_cell? _ _ c_x_0
  clear z_y
  have z_y := World.block_lt_of_cell? _ _ c_y_0
  clear z_a
  have hB2 := below_two hB1 hs2
  clear hB1 hs2
  go_wp2_with fail
  have hs3 : Below w2.heap.size w2 (w2.alloc (.cells #[.int .i64 s, .int .i64 b, .int .i64 o] 23)) := by repeat (first | exact Below.refl _ _ | refine Below.alloc ?_ (by simp <;> omega) _)
  replace c_x_0 := cell_later hs3 c_x_0
  replace c_x_1 := cell_later hs3 c_x_1
  replace c_y_0 := cell_later hs3 c_y_0
  replace c_y_1 := cell_later hs3 c_y_1
  have c_p_0 : (w2.alloc (.cells #[.int .i64 s, .int .i64 b, .int .i64 o] 23)).cell? ⟨w2.heap.size, 0, none⟩ = some (.int .i64 s) := by go_simp
  have c_p_1 : (w2.alloc (.cells #[.int .i64 s, .int .i64 b, .int .i64 o] 23)).cell? ⟨w2.heap.size, 1, none⟩ = some (.int .i64 b) := by go_simp
  have c_p_2 : (w2.alloc (.cells #[.int .i64 s, .int .i64 b, .int .i64 o] 23)).cell? ⟨w2.heap.size, 2, none⟩ = some (.int .i64 o) := by go_simp
  have hB3 := below_two hB2 hs3
  clear hB2 hs3
  have y3_x := z_x
  have y3_y := z_y
  generalize (w2.alloc (.cells #[.int .i64 s, .int .i64 b, .int .i64 o] 23)) = w3 at *
  have z_p := World.block_lt_of_cell? _ _ c_p_0
  clear z_x
  have z_x := World.block_lt_of_cell? _ _ c_x_0
  clear z_y
  have z_y := World.block_lt_of_cell? _ _ c_y_0
  go_region_held3 (fun w' => w'.cell? ⟨w.heap.size + 1, 0, none⟩ = some (.int .i64 x1) ∧ w'.cell? ⟨w.heap.size + 1, 1, none⟩ = some (.int .i64 x2) ∧ w'.cell? ⟨w.heap.size + 1 + 1, 0, none⟩ = some (.int .i64 y1) ∧ w'.cell? ⟨w.heap.size + 1 + 1, 1, none⟩ = some (.int .i64 y2) ∧ w'.cell? ⟨w2.heap.size, 0, none⟩ = some (.int .i64 s) ∧ w'.cell? ⟨w2.heap.size, 1, none⟩ = some (.int .i64 b) ∧ w'.cell? ⟨w2.heap.size, 2, none⟩ = some (.int .i64 o) ∧ Below w.heap.size w w')
    (((try go_split_ands); refine ⟨?_, ?_, ?_, ?_, ?_, ?_, ?_, ?_⟩ <;> first | with_reducible assumption | (with_reducible refine cell_later hq ?_; with_reducible assumption) | (with_reducible refine below_two ?_ hq; with_reducible assumption) | (with_reducible refine cell_drew (alloc_cell ?_); with_reducible assumption) | (with_reducible refine Below.drew (alloc_below ?_); with_reducible assumption) | with_reducible exact cell_drew c_x_0 | with_reducible exact cell_drew c_x_1 | with_reducible exact cell_drew c_y_0 | with_reducible exact cell_drew c_y_1 | with_reducible exact cell_drew c_p_0 | with_reducible exact cell_drew c_p_1 | with_reducible exact cell_drew c_p_2 | with_reducible exact hB3.drew))
    (first
      | (go_at_call 22; refine (pick_any _ _ _ ?_ ?_ ?_).mono ?_; (first | exact i1 | exact i2 | exact i3 | exact i4); decide; decide; rintro e w4 ⟨rfl, rfl⟩; (first | rw [K1.out] | rw [K2.out] | rw [K3.out] | rw [K4.out])))
  all_goals
    have hs4 : Below w3.heap.size w3 (w3.alloc (.cells #[.int .i64 u1, .int .i64 u2] 25)).drew := ((Below.refl _ _).alloc (Nat.le_refl _) _).drew
    clear c_x_0
    clear c_x_1
    replace c_y_0 := cell_later hs4 c_y_0
    replace c_y_1 := cell_later hs4 c_y_1
    replace c_p_0 := cell_later hs4 c_p_0
    replace c_p_1 := cell_later hs4 c_p_1
    replace c_p_2 := cell_later hs4 c_p_2
    have c_u_0 : (w3.alloc (.cells #[.int .i64 u1, .int .i64 u2] 25)).drew.cell? ⟨w3.heap.size, 0, none⟩ = some (.int .i64 u1) := by go_simp
    have c_u_1 : (w3.alloc (.cells #[.int .i64 u1, .int .i64 u2] 25)).drew.cell? ⟨w3.heap.size, 1, none⟩ = some (.int .i64 u2) := by go_simp
    have hB4 := below_two hB3 hs4
    clear hB3 hs4 z_p z_x z_y
    generalize (w3.alloc (.cells #[.int .i64 u1, .int .i64 u2] 25)).drew = w4 at *
    have z_p := World.block_lt_of_cell? _ _ c_p_0
    have z_u := World.block_lt_of_cell? _ _ c_u_0
    have z_y := World.block_lt_of_cell? _ _ c_y_0
    go_wp2_with fail
    go_region_held3 (fun w' => w'.cell? ⟨w.heap.size + 1 + 1, 0, none⟩ = some (.int .i64 y1) ∧ w'.cell? ⟨w.heap.size + 1 + 1, 1, none⟩ = some (.int .i64 y2) ∧ w'.cell? ⟨w2.heap.size, 0, none⟩ = some (.int .i64 s) ∧ w'.cell? ⟨w2.heap.size, 1, none⟩ = some (.int .i64 b) ∧ w'.cell? ⟨w2.heap.size, 2, none⟩ = some (.int .i64 o) ∧ w'.cell? ⟨w3.heap.size, 0, none⟩ = some (.int .i64 u1) ∧ w'.cell? ⟨w3.heap.size, 1, none⟩ = some (.int .i64 u2) ∧ Below w.heap.size w w')
      (((try go_split_ands); refine ⟨?_, ?_, ?_, ?_, ?_, ?_, ?_, ?_⟩ <;> first | with_reducible assumption | (with_reducible refine cell_later hq ?_; with_reducible assumption) | (with_reducible refine below_two ?_ hq; with_reducible assumption) | (with_reducible refine cell_drew (alloc_cell ?_); with_reducible assumption) | (with_reducible refine Below.drew (alloc_below ?_); with_reducible assumption) | with_reducible exact cell_drew c_y_0 | with_reducible exact cell_drew c_y_1 | with_reducible exact cell_drew c_p_0 | with_reducible exact cell_drew c_p_1 | with_reducible exact cell_drew c_p_2 | with_reducible exact cell_drew c_u_0 | with_reducible exact cell_drew c_u_1 | with_reducible exact hB4.drew))
      (first
        | (go_at_call 22; refine (pick_any _ _ _ ?_ ?_ ?_).mono ?_; (first | exact i1 | exact i2 | exact i3 | exact i4); decide; decide; rintro e w5 ⟨rfl, rfl⟩; (first | rw [K1.out] | rw [K2.out] | rw [K3.out] | rw [K4.out])))
    all_goals
      have hs5 : Below w4.heap.size w4 (w4.alloc (.cells #[.int .i64 v1, .int .i64 v2] 25)).drew := ((Below.refl _ _).alloc (Nat.le_refl _) _).drew
      clear c_y_0
      clear c_y_1
      replace c_p_0 := cell_later hs5 c_p_0
      replace c_p_1 := cell_later hs5 c_p_1
      replace c_p_2 := cell_later hs5 c_p_2
      replace c_u_0 := cell_later hs5 c_u_0
      replace c_u_1 := cell_later hs5 c_u_1
      have c_v_0 : (w4.alloc (.cells #[.int .i64 v1, .int .i64 v2] 25)).drew.cell? ⟨w4.heap.size, 0, none⟩ = some (.int .i64 v1) := by go_simp
      have c_v_1 : (w4.alloc (.cells #[.int .i64 v1, .int .i64 v2] 25)).drew.cell? ⟨w4.heap.size, 1, none⟩ = some (.int .i64 v2) := by go_simp
      have hB5 := below_two hB4 hs5
      clear hB4 hs5 z_p z_u z_y
      generalize (w4.alloc (.cells #[.int .i64 v1, .int .i64 v2] 25)).drew = w5 at *
      have z_p := World.block_lt_of_cell? _ _ c_p_0
      have z_u := World.block_lt_of_cell? _ _ c_u_0
      have z_v := World.block_lt_of_cell? _ _ c_v_0
      go_wp2_with fail
      have hR' := hR.below hB5
      refine (up_any _ _ _ _ _ _ hR').mono ?_
      rintro e w6 ⟨rfl, hb6⟩
      clear hR'
      have hs6 := hb6
      replace c_p_0 := cell_later hs6 c_p_0
      replace c_p_1 := cell_later hs6 c_p_1
      replace c_p_2 := cell_later hs6 c_p_2
      replace c_u_0 := cell_later hs6 c_u_0
      replace c_u_1 := cell_later hs6 c_u_1
      replace c_v_0 := cell_later hs6 c_v_0
      replace c_v_1 := cell_later hs6 c_v_1
      clear z_p
      have z_p := World.block_lt_of_cell? _ _ c_p_0
      clear z_u
      have z_u := World.block_lt_of_cell? _ _ c_u_0
      clear z_v
      have z_v := World.block_lt_of_cell? _ _ c_v_0
      have hB6 := below_two hB5 hs6
      clear hB5 hs6
      rw [HU.out]
      simp only [upV]
      go_wp2_with fail
      have hR' := hR.below (hB6.alloc hB6.size (.cells #[.int .i64 t, .int .i64 c, .int .i64 p] 23))
      refine (between_any _ _ _ _ _ _ _ hR').mono ?_
      rintro e w7 ⟨rfl, hb7⟩
      clear hR'
      have hs7 : Below w6.heap.size w6 w7 := Below.trans (by repeat (first | exact Below.refl _ _ | refine Below.alloc ?_ (by simp <;> omega) _)) (hb7.mono (by simp <;> omega))
      replace c_p_0 := cell_later hs7 c_p_0
      replace c_p_1 := cell_later hs7 c_p_1
      replace c_p_2 := cell_later hs7 c_p_2
      replace c_u_0 := cell_later hs7 c_u_0
      replace c_u_1 := cell_later hs7 c_u_1
      replace c_v_0 := cell_later hs7 c_v_0
      replace c_v_1 := cell_later hs7 c_v_1
      have c_q_0 : w7.cell? ⟨w6.heap.size, 0, none⟩ = some (.int .i64 t) := (hb7.cell (by simp <;> omega)).trans (by go_simp)
      have c_q_1 : w7.cell? ⟨w6.heap.size, 1, none⟩ = some (.int .i64 c) := (hb7.cell (by simp <;> omega)).trans (by go_simp)
      have c_q_2 : w7.cell? ⟨w6.heap.size, 2, none⟩ = some (.int .i64 p) := (hb7.cell (by simp <;> omega)).trans (by go_simp)
      clear z_p
      have z_p := World.block_lt_of_cell? _ _ c_p_0
      have z_q := World.block_lt_of_cell? _ _ c_q_0
      clear z_u
      have z_u := World.block_lt_of_cell? _ _ c_u_0
      clear z_v
      have z_v := World.block_lt_of_cell? _ _ c_v_0
      have hB7 := below_two hB6 hs7
      clear hB6 hs7 hb7
      rw [HP.out, HQ.out]
      simp only [Bool.and_self, btS, btH, errP, if_true]
      rw [H1.out, H2.out]
      go_wp2_with fail
      have hR' := hR.below (hB7.alloc hB7.size (.cells #[.int .i64 u1, .int .i64 u2] 25))
      refine (up_any _ _ _ _ _ _ hR').mono ?_
      rintro e w8 ⟨rfl, hb8⟩
      clear hR'
      have hs8 : Below w7.heap.size w7 w8 := Below.trans (by repeat (first | exact Below.refl _ _ | refine Below.alloc ?_ (by simp <;> omega) _)) (hb8.mono (by simp <;> omega))
      replace c_p_0 := cell_later hs8 c_p_0
      replace c_p_1 := cell_later hs8 c_p_1
      replace c_p_2 := cell_later hs8 c_p_2
      replace c_u_0 := cell_later hs8 c_u_0
      replace c_u_1 := cell_later hs8 c_u_1
      replace c_v_0 := cell_later hs8 c_v_0
      replace c_v_1 := cell_later hs8 c_v_1
      replace c_q_0 := cell_later hs8 c_q_0
      replace c_q_1 := cell_later hs8 c_q_1
      replace c_q_2 := cell_later hs8 c_q_2
      have c_by_0 : w8.cell? ⟨w7.heap.size, 0, none⟩ = some (.int .i64 u1) := (hb8.cell (by simp <;> omega)).trans (by go_simp)
      have c_by_1 : w8.cell? ⟨w7.heap.size, 1, none⟩ = some (.int .i64 u2) := (hb8.cell (by simp <;> omega)).trans (by go_simp)
      have z_by := World.block_lt_of_cell? _ _ c_by_0
      clear z_p
      have z_p := World.block_lt_of_cell? _ _ c_p_0
      clear z_q
      have z_q := World.block_lt_of_cell? _ _ c_q_0
      clear z_u
      have z_u := World.block_lt_of_cell? _ _ c_u_0
      clear z_v
      have z_v := World.block_lt_of_cell? _ _ c_v_0
      have hB8 := below_two hB7 hs8
      clear hB7 hs8 hb8
      rw [HV.out]
      simp only [upV]
      go_wp2_with fail
      have hR' := hR.below (hB8.alloc hB8.size (.cells #[.int .i64 d, .int .i64 e, .int .i64 f] 23))
      refine (up_any _ _ _ _ _ _ hR').mono ?_
      rintro e w9 ⟨rfl, hb9⟩
      clear hR'
      have hs9 : Below w8.heap.size w8 w9 := Below.trans (by repeat (first | exact Below.refl _ _ | refine Below.alloc ?_ (by simp <;> omega) _)) (hb9.mono (by simp <;> omega))
      replace c_p_0 := cell_later hs9 c_p_0
      replace c_p_1 := cell_later hs9 c_p_1
      replace c_p_2 := cell_later hs9 c_p_2
      replace c_u_0 := cell_later hs9 c_u_0
      replace c_u_1 := cell_later hs9 c_u_1
      replace c_v_0 := cell_later hs9 c_v_0
      replace c_v_1 := cell_later hs9 c_v_1
      replace c_q_0 := cell_later hs9 c_q_0
      replace c_q_1 := cell_later hs9 c_q_1
      replace c_q_2 := cell_later hs9 c_q_2
      replace c_by_0 := cell_later hs9 c_by_0
      replace c_by_1 := cell_later hs9 c_by_1
      have c_r_0 : w9.cell? ⟨w8.heap.size, 0, none⟩ = some (.int .i64 d) := (hb9.cell (by simp <;> omega)).trans (by go_simp)
      have c_r_1 : w9.cell? ⟨w8.heap.size, 1, none⟩ = some (.int .i64 e) := (hb9.cell (by simp <;> omega)).trans (by go_simp)
      have c_r_2 : w9.cell? ⟨w8.heap.size, 2, none⟩ = some (.int .i64 f) := (hb9.cell (by simp <;> omega)).trans (by go_simp)
      clear z_by
      have z_by := World.block_lt_of_cell? _ _ c_by_0
      clear z_p
      have z_p := World.block_lt_of_cell? _ _ c_p_0
      clear z_q
      have z_q := World.block_lt_of_cell? _ _ c_q_0
      have z_r := World.block_lt_of_cell? _ _ c_r_0
      clear z_u
      have z_u := World.block_lt_of_cell? _ _ c_u_0
      clear z_v
      have z_v := World.block_lt_of_cell? _ _ c_v_0
      have hB9 := below_two hB8 hs9
      clear hB8 hs9 hb9
      rw [HW.out]
      simp only [upV]
      go_wp2_with fail
      have hR' := hR.below (hB9.alloc hB9.size (.cells #[.int .i64 d, .int .i64 e, .int .i64 f] 23))
      refine (right_any _ _ _ _ hR').mono ?_
      rintro e w10 ⟨rfl, hb10⟩
      clear hR'
      have hs10 : Below w9.heap.size w9 w10 := Below.trans (by repeat (first | exact Below.refl _ _ | refine Below.alloc ?_ (by simp <;> omega) _)) (hb10.mono (by simp <;> omega))
      replace c_p_0 := cell_later hs10 c_p_0
      replace c_p_1 := cell_later hs10 c_p_1
      replace c_p_2 := cell_later hs10 c_p_2
      replace c_u_0 := cell_later hs10 c_u_0
      replace c_u_1 := cell_later hs10 c_u_1
      replace c_v_0 := cell_later hs10 c_v_0
      replace c_v_1 := cell_later hs10 c_v_1
      replace c_q_0 := cell_later hs10 c_q_0
      replace c_q_1 := cell_later hs10 c_q_1
      replace c_q_2 := cell_later hs10 c_q_2
      replace c_by_0 := cell_later hs10 c_by_0
      replace c_by_1 := cell_later hs10 c_by_1
      replace c_r_0 := cell_later hs10 c_r_0
      replace c_r_1 := cell_later hs10 c_r_1
      replace c_r_2 := cell_later hs10 c_r_2
      have c_s_0 : w10.cell? ⟨w9.heap.size, 0, none⟩ = some (.int .i64 d) := (hb10.cell (by simp <;> omega)).trans (by go_simp)
      have c_s_1 : w10.cell? ⟨w9.heap.size, 1, none⟩ = some (.int .i64 e) := (hb10.cell (by simp <;> omega)).trans (by go_simp)
      have c_s_2 : w10.cell? ⟨w9.heap.size, 2, none⟩ = some (.int .i64 f) := (hb10.cell (by simp <;> omega)).trans (by go_simp)
      clear z_by
      have z_by := World.block_lt_of_cell? _ _ c_by_0
      clear z_p
      have z_p := World.block_lt_of_cell? _ _ c_p_0
      clear z_q
      have z_q := World.block_lt_of_cell? _ _ c_q_0
      clear z_r
      have z_r := World.block_lt_of_cell? _ _ c_r_0
      have z_s := World.block_lt_of_cell? _ _ c_s_0
      clear z_u
      have z_u := World.block_lt_of_cell? _ _ c_u_0
      clear z_v
      have z_v := World.block_lt_of_cell? _ _ c_v_0
      have hB10 := below_two hB9 hs10
      clear hB9 hs10 hb10
      rw [HQ.out]
      go_wp2
      go_ret
      exact ⟨rfl, hB10⟩

set_option maxRecDepth 100000 in
set_option maxHeartbeats 4000000 in
theorem chain_one (a1 a2 a3 x1 x2 y1 y2 s b o : Int) (w : World) (hR : Ready w) (HA : Hid (∀ w, Calls Tryd.prog 13 #[pt a1 a2 a3] w fun e w' => e = .returned (pt s b o) ∧ Below w.heap.size w w')) (i1 : Pit.I64 x1) (i2 : Pit.I64 x2) (i3 : Pit.I64 y1) (i4 : Pit.I64 y2) (k1 k2 k3 k4 u1 u2 v1 v2 : Int) (K1 : Hid (pickS x1 31 = k1)) (K2 : Hid (pickS x2 51 = k2)) (K3 : Hid (pickS y1 31 = k3)) (K4 : Hid (pickS y2 51 = k4)) (e1 : IntKind.i64.wrap (k1 - 15) = u1) (e2 : IntKind.i64.wrap (k2 - 25) = u2) (e3 : IntKind.i64.wrap (k3 - 15) = v1) (e4 : IntKind.i64.wrap (k4 - 25) = v2) (b1 : -30 ≤ u1) (b2 : u1 ≤ 30) (b3 : -30 ≤ u2) (b4 : u2 ≤ 30) (b5 : -30 ≤ v1) (b6 : v1 ≤ 30) (b7 : -30 ≤ v2) (b8 : v2 ≤ 30) (t c p : Int) (HU : Hid (Pit.up s b o u1 u2 = some (t, c, p))) (HP : Hid (Pit.right s b o = true)) (HQ : Hid (Pit.right t c p = true)) (H1 : Hid (Pit.lin t p - Pit.lin s o = u1)) (H2 : Hid (Pit.num t c p - Pit.num s b o = u2)) (HV : Hid (Pit.up t c p v1 v2 = none)) (HW : Hid (Pit.up s b o (u1 + v1) (u2 + v2) = none)) :
    Calls Tryd.prog 7 #[pt a1 a2 a3, iv x1 x2, iv y1 y2] w fun e w' => e = .returned (.bool true) ∧ Below w.heap.size w w' := by
  have hgP := guardP
  have hgI := guardI
  have heP := eql_pt
  have heI := eql_iv
  have hnP := neq_pt
  have hsP := eqP_self
  have hsI := eqI_self
  have hB0 : Below w.heap.size w w := Below.refl _ _
  go_enter Tryd.func7, Tryd.ntmps7
  go_wp2_with fail
  have hR' := hR.below (((hB0.alloc hB0.size (.cells #[.int .i64 a1, .int .i64 a2, .int .i64 a3] 23)).alloc (hB0.alloc hB0.size (.cells #[.int .i64 a1, .int .i64 a2, .int .i64 a3] 23)).size (.cells #[.int .i64 x1, .int .i64 x2] 25)).alloc ((hB0.alloc hB0.size (.cells #[.int .i64 a1, .int .i64 a2, .int .i64 a3] 23)).alloc (hB0.alloc hB0.size (.cells #[.int .i64 a1, .int .i64 a2, .int .i64 a3] 23)).size (.cells #[.int .i64 x1, .int .i64 x2] 25)).size (.cells #[.int .i64 y1, .int .i64 y2] 25))
  refine (awake_any _ hR').mono ?_
  rintro e w1 ⟨rfl, hb1⟩
  clear hR'
  have hs1 : Below w.heap.size w w1 := Below.trans (by repeat (first | exact Below.refl _ _ | refine Below.alloc ?_ (by simp <;> omega) _)) (hb1.mono (by simp <;> omega))
  have c_a_0 : w1.cell? ⟨w.heap.size, 0, none⟩ = some (.int .i64 a1) := (hb1.cell (by simp <;> omega)).trans (by go_simp)
  have c_a_1 : w1.cell? ⟨w.heap.size, 1, none⟩ = some (.int .i64 a2) := (hb1.cell (by simp <;> omega)).trans (by go_simp)
  have c_a_2 : w1.cell? ⟨w.heap.size, 2, none⟩ = some (.int .i64 a3) := (hb1.cell (by simp <;> omega)).trans (by go_simp)
  have c_x_0 : w1.cell? ⟨w.heap.size + 1, 0, none⟩ = some (.int .i64 x1) := (hb1.cell (by simp <;> omega)).trans (by go_simp)
  have c_x_1 : w1.cell? ⟨w.heap.size + 1, 1, none⟩ = some (.int .i64 x2) := (hb1.cell (by simp <;> omega)).trans (by go_simp)
  have c_y_0 : w1.cell? ⟨w.heap.size + 1 + 1, 0, none⟩ = some (.int .i64 y1) := (hb1.cell (by simp <;> omega)).trans (by go_simp)
  have c_y_1 : w1.cell? ⟨w.heap.size + 1 + 1, 1, none⟩ = some (.int .i64 y2) := (hb1.cell (by simp <;> omega)).trans (by go_simp)
  have z_a := World.block_lt_of_cell? _ _ c_a_0
  have z_x := World.block_lt_of_cell? _ _ c_x_0
  have z_y := World.block_lt_of_cell? _ _ c_y_0
  have hB1 := below_two hB0 hs1
  clear hB0 hs1 hb1
  go_wp2_with fail
  have hR' := hR.below hB1
  refine (HA.out _).mono ?_
  rintro e w2 ⟨rfl, hb2⟩
  clear hR'
  have hs2 := hb2
  clear c_a_0
  clear c_a_1
  clear c_a_2
  replace c_x_0 := cell_later hs2 c_x_0
  replace c_x_1 := cell_later hs2 c_x_1
  replace c_y_0 := cell_later hs2 c_y_0
  replace c_y_1 := cell_later hs2 c_y_1
  clear z_x
  have z_x := World.block_lt_of_cell? _ _ c_x_0
  clear z_y
  have z_y := World.block_lt_of_cell? _ _ c_y_0
  clear z_a
  have hB2 := below_two hB1 hs2
  clear hB1 hs2
  go_wp2_with fail
  have hs3 : Below w2.heap.size w2 (w2.alloc (.cells #[.int .i64 s, .int .i64 b, .int .i64 o] 23)) := by repeat (first | exact Below.refl _ _ | refine Below.alloc ?_ (by simp <;> omega) _)
  replace c_x_0 := cell_later hs3 c_x_0
  replace c_x_1 := cell_later hs3 c_x_1
  replace c_y_0 := cell_later hs3 c_y_0
  replace c_y_1 := cell_later hs3 c_y_1
  have c_p_0 : (w2.alloc (.cells #[.int .i64 s, .int .i64 b, .int .i64 o] 23)).cell? ⟨w2.heap.size, 0, none⟩ = some (.int .i64 s) := by go_simp
  have c_p_1 : (w2.alloc (.cells #[.int .i64 s, .int .i64 b, .int .i64 o] 23)).cell? ⟨w2.heap.size, 1, none⟩ = some (.int .i64 b) := by go_simp
  have c_p_2 : (w2.alloc (.cells #[.int .i64 s, .int .i64 b, .int .i64 o] 23)).cell? ⟨w2.heap.size, 2, none⟩ = some (.int .i64 o) := by go_simp
  have hB3 := below_two hB2 hs3
  clear hB2 hs3
  have y3_x := z_x
  have y3_y := z_y
  generalize (w2.alloc (.cells #[.int .i64 s, .int .i64 b, .int .i64 o] 23)) = w3 at *
  have z_p := World.block_lt_of_cell? _ _ c_p_0
  clear z_x
  have z_x := World.block_lt_of_cell? _ _ c_x_0
  clear z_y
  have z_y := World.block_lt_of_cell? _ _ c_y_0
  go_region_held3 (fun w' => w'.cell? ⟨w.heap.size + 1, 0, none⟩ = some (.int .i64 x1) ∧ w'.cell? ⟨w.heap.size + 1, 1, none⟩ = some (.int .i64 x2) ∧ w'.cell? ⟨w.heap.size + 1 + 1, 0, none⟩ = some (.int .i64 y1) ∧ w'.cell? ⟨w.heap.size + 1 + 1, 1, none⟩ = some (.int .i64 y2) ∧ w'.cell? ⟨w2.heap.size, 0, none⟩ = some (.int .i64 s) ∧ w'.cell? ⟨w2.heap.size, 1, none⟩ = some (.int .i64 b) ∧ w'.cell? ⟨w2.heap.size, 2, none⟩ = some (.int .i64 o) ∧ Below w.heap.size w w')
    (((try go_split_ands); refine ⟨?_, ?_, ?_, ?_, ?_, ?_, ?_, ?_⟩ <;> first | with_reducible assumption | (with_reducible refine cell_later hq ?_; with_reducible assumption) | (with_reducible refine below_two ?_ hq; with_reducible assumption) | (with_reducible refine cell_drew (alloc_cell ?_); with_reducible assumption) | (with_reducible refine Below.drew (alloc_below ?_); with_reducible assumption) | with_reducible exact cell_drew c_x_0 | with_reducible exact cell_drew c_x_1 | with_reducible exact cell_drew c_y_0 | with_reducible exact cell_drew c_y_1 | with_reducible exact cell_drew c_p_0 | with_reducible exact cell_drew c_p_1 | with_reducible exact cell_drew c_p_2 | with_reducible exact hB3.drew))
    (first
      | (go_at_call 22; refine (pick_any _ _ _ ?_ ?_ ?_).mono ?_; (first | exact i1 | exact i2 | exact i3 | exact i4); decide; decide; rintro e w4 ⟨rfl, rfl⟩; (first | rw [K1.out] | rw [K2.out] | rw [K3.out] | rw [K4.out])))
  all_goals
    have hs4 : Below w3.heap.size w3 (w3.alloc (.cells #[.int .i64 u1, .int .i64 u2] 25)).drew := ((Below.refl _ _).alloc (Nat.le_refl _) _).drew
    clear c_x_0
    clear c_x_1
    replace c_y_0 := cell_later hs4 c_y_0
    replace c_y_1 := cell_later hs4 c_y_1
    replace c_p_0 := cell_later hs4 c_p_0
    replace c_p_1 := cell_later hs4 c_p_1
    replace c_p_2 := cell_later hs4 c_p_2
    have c_u_0 : (w3.alloc (.cells #[.int .i64 u1, .int .i64 u2] 25)).drew.cell? ⟨w3.heap.size, 0, none⟩ = some (.int .i64 u1) := by go_simp
    have c_u_1 : (w3.alloc (.cells #[.int .i64 u1, .int .i64 u2] 25)).drew.cell? ⟨w3.heap.size, 1, none⟩ = some (.int .i64 u2) := by go_simp
    have hB4 := below_two hB3 hs4
    clear hB3 hs4 z_p z_x z_y
    generalize (w3.alloc (.cells #[.int .i64 u1, .int .i64 u2] 25)).drew = w4 at *
    have z_p := World.block_lt_of_cell? _ _ c_p_0
    have z_u := World.block_lt_of_cell? _ _ c_u_0
    have z_y := World.block_lt_of_cell? _ _ c_y_0
    go_wp2_with fail
    go_region_held3 (fun w' => w'.cell? ⟨w.heap.size + 1 + 1, 0, none⟩ = some (.int .i64 y1) ∧ w'.cell? ⟨w.heap.size + 1 + 1, 1, none⟩ = some (.int .i64 y2) ∧ w'.cell? ⟨w2.heap.size, 0, none⟩ = some (.int .i64 s) ∧ w'.cell? ⟨w2.heap.size, 1, none⟩ = some (.int .i64 b) ∧ w'.cell? ⟨w2.heap.size, 2, none⟩ = some (.int .i64 o) ∧ w'.cell? ⟨w3.heap.size, 0, none⟩ = some (.int .i64 u1) ∧ w'.cell? ⟨w3.heap.size, 1, none⟩ = some (.int .i64 u2) ∧ Below w.heap.size w w')
      (((try go_split_ands); refine ⟨?_, ?_, ?_, ?_, ?_, ?_, ?_, ?_⟩ <;> first | with_reducible assumption | (with_reducible refine cell_later hq ?_; with_reducible assumption) | (with_reducible refine below_two ?_ hq; with_reducible assumption) | (with_reducible refine cell_drew (alloc_cell ?_); with_reducible assumption) | (with_reducible refine Below.drew (alloc_below ?_); with_reducible assumption) | with_reducible exact cell_drew c_y_0 | with_reducible exact cell_drew c_y_1 | with_reducible exact cell_drew c_p_0 | with_reducible exact cell_drew c_p_1 | with_reducible exact cell_drew c_p_2 | with_reducible exact cell_drew c_u_0 | with_reducible exact cell_drew c_u_1 | with_reducible exact hB4.drew))
      (first
        | (go_at_call 22; refine (pick_any _ _ _ ?_ ?_ ?_).mono ?_; (first | exact i1 | exact i2 | exact i3 | exact i4); decide; decide; rintro e w5 ⟨rfl, rfl⟩; (first | rw [K1.out] | rw [K2.out] | rw [K3.out] | rw [K4.out])))
    all_goals
      have hs5 : Below w4.heap.size w4 (w4.alloc (.cells #[.int .i64 v1, .int .i64 v2] 25)).drew := ((Below.refl _ _).alloc (Nat.le_refl _) _).drew
      clear c_y_0
      clear c_y_1
      replace c_p_0 := cell_later hs5 c_p_0
      replace c_p_1 := cell_later hs5 c_p_1
      replace c_p_2 := cell_later hs5 c_p_2
      replace c_u_0 := cell_later hs5 c_u_0
      replace c_u_1 := cell_later hs5 c_u_1
      have c_v_0 : (w4.alloc (.cells #[.int .i64 v1, .int .i64 v2] 25)).drew.cell? ⟨w4.heap.size, 0, none⟩ = some (.int .i64 v1) := by go_simp
      have c_v_1 : (w4.alloc (.cells #[.int .i64 v1, .int .i64 v2] 25)).drew.cell? ⟨w4.heap.size, 1, none⟩ = some (.int .i64 v2) := by go_simp
      have hB5 := below_two hB4 hs5
      clear hB4 hs5 z_p z_u z_y
      generalize (w4.alloc (.cells #[.int .i64 v1, .int .i64 v2] 25)).drew = w5 at *
      have z_p := World.block_lt_of_cell? _ _ c_p_0
      have z_u := World.block_lt_of_cell? _ _ c_u_0
      have z_v := World.block_lt_of_cell? _ _ c_v_0
      go_wp2_with fail
      have hR' := hR.below hB5
      refine (up_any _ _ _ _ _ _ hR').mono ?_
      rintro e w6 ⟨rfl, hb6⟩
      clear hR'
      have hs6 := hb6
      replace c_p_0 := cell_later hs6 c_p_0
      replace c_p_1 := cell_later hs6 c_p_1
      replace c_p_2 := cell_later hs6 c_p_2
      replace c_u_0 := cell_later hs6 c_u_0
      replace c_u_1 := cell_later hs6 c_u_1
      replace c_v_0 := cell_later hs6 c_v_0
      replace c_v_1 := cell_later hs6 c_v_1
      clear z_p
      have z_p := World.block_lt_of_cell? _ _ c_p_0
      clear z_u
      have z_u := World.block_lt_of_cell? _ _ c_u_0
      clear z_v
      have z_v := World.block_lt_of_cell? _ _ c_v_0
      have hB6 := below_two hB5 hs6
      clear hB5 hs6
      rw [HU.out]
      simp only [upV]
      go_wp2_with fail
      have hR' := hR.below (hB6.alloc hB6.size (.cells #[.int .i64 t, .int .i64 c, .int .i64 p] 23))
      refine (between_any _ _ _ _ _ _ _ hR').mono ?_
      rintro e w7 ⟨rfl, hb7⟩
      clear hR'
      have hs7 : Below w6.heap.size w6 w7 := Below.trans (by repeat (first | exact Below.refl _ _ | refine Below.alloc ?_ (by simp <;> omega) _)) (hb7.mono (by simp <;> omega))
      replace c_p_0 := cell_later hs7 c_p_0
      replace c_p_1 := cell_later hs7 c_p_1
      replace c_p_2 := cell_later hs7 c_p_2
      replace c_u_0 := cell_later hs7 c_u_0
      replace c_u_1 := cell_later hs7 c_u_1
      replace c_v_0 := cell_later hs7 c_v_0
      replace c_v_1 := cell_later hs7 c_v_1
      have c_q_0 : w7.cell? ⟨w6.heap.size, 0, none⟩ = some (.int .i64 t) := (hb7.cell (by simp <;> omega)).trans (by go_simp)
      have c_q_1 : w7.cell? ⟨w6.heap.size, 1, none⟩ = some (.int .i64 c) := (hb7.cell (by simp <;> omega)).trans (by go_simp)
      have c_q_2 : w7.cell? ⟨w6.heap.size, 2, none⟩ = some (.int .i64 p) := (hb7.cell (by simp <;> omega)).trans (by go_simp)
      clear z_p
      have z_p := World.block_lt_of_cell? _ _ c_p_0
      have z_q := World.block_lt_of_cell? _ _ c_q_0
      clear z_u
      have z_u := World.block_lt_of_cell? _ _ c_u_0
      clear z_v
      have z_v := World.block_lt_of_cell? _ _ c_v_0
      have hB7 := below_two hB6 hs7
      clear hB6 hs7 hb7
      rw [HP.out, HQ.out]
      simp only [Bool.and_self, btS, btH, errP, if_true]
      rw [H1.out, H2.out]
      go_wp2_with fail
      have hR' := hR.below (hB7.alloc hB7.size (.cells #[.int .i64 u1, .int .i64 u2] 25))
      refine (up_any _ _ _ _ _ _ hR').mono ?_
      rintro e w8 ⟨rfl, hb8⟩
      clear hR'
      have hs8 : Below w7.heap.size w7 w8 := Below.trans (by repeat (first | exact Below.refl _ _ | refine Below.alloc ?_ (by simp <;> omega) _)) (hb8.mono (by simp <;> omega))
      replace c_p_0 := cell_later hs8 c_p_0
      replace c_p_1 := cell_later hs8 c_p_1
      replace c_p_2 := cell_later hs8 c_p_2
      replace c_u_0 := cell_later hs8 c_u_0
      replace c_u_1 := cell_later hs8 c_u_1
      replace c_v_0 := cell_later hs8 c_v_0
      replace c_v_1 := cell_later hs8 c_v_1
      replace c_q_0 := cell_later hs8 c_q_0
      replace c_q_1 := cell_later hs8 c_q_1
      replace c_q_2 := cell_later hs8 c_q_2
      have c_by_0 : w8.cell? ⟨w7.heap.size, 0, none⟩ = some (.int .i64 u1) := (hb8.cell (by simp <;> omega)).trans (by go_simp)
      have c_by_1 : w8.cell? ⟨w7.heap.size, 1, none⟩ = some (.int .i64 u2) := (hb8.cell (by simp <;> omega)).trans (by go_simp)
      have z_by := World.block_lt_of_cell? _ _ c_by_0
      clear z_p
      have z_p := World.block_lt_of_cell? _ _ c_p_0
      clear z_q
      have z_q := World.block_lt_of_cell? _ _ c_q_0
      clear z_u
      have z_u := World.block_lt_of_cell? _ _ c_u_0
      clear z_v
      have z_v := World.block_lt_of_cell? _ _ c_v_0
      have hB8 := below_two hB7 hs8
      clear hB7 hs8 hb8
      rw [HV.out]
      simp only [upV]
      go_wp2_with fail
      have hR' := hR.below (hB8.alloc hB8.size (.cells #[.int .i64 0, .int .i64 0, .int .i64 0] 23))
      refine (up_any _ _ _ _ _ _ hR').mono ?_
      rintro e w9 ⟨rfl, hb9⟩
      clear hR'
      have hs9 : Below w8.heap.size w8 w9 := Below.trans (by repeat (first | exact Below.refl _ _ | refine Below.alloc ?_ (by simp <;> omega) _)) (hb9.mono (by simp <;> omega))
      replace c_p_0 := cell_later hs9 c_p_0
      replace c_p_1 := cell_later hs9 c_p_1
      replace c_p_2 := cell_later hs9 c_p_2
      replace c_u_0 := cell_later hs9 c_u_0
      replace c_u_1 := cell_later hs9 c_u_1
      replace c_v_0 := cell_later hs9 c_v_0
      replace c_v_1 := cell_later hs9 c_v_1
      replace c_q_0 := cell_later hs9 c_q_0
      replace c_q_1 := cell_later hs9 c_q_1
      replace c_q_2 := cell_later hs9 c_q_2
      replace c_by_0 := cell_later hs9 c_by_0
      replace c_by_1 := cell_later hs9 c_by_1
      have c_r_0 : w9.cell? ⟨w8.heap.size, 0, none⟩ = some (.int .i64 0) := (hb9.cell (by simp <;> omega)).trans (by go_simp)
      have c_r_1 : w9.cell? ⟨w8.heap.size, 1, none⟩ = some (.int .i64 0) := (hb9.cell (by simp <;> omega)).trans (by go_simp)
      have c_r_2 : w9.cell? ⟨w8.heap.size, 2, none⟩ = some (.int .i64 0) := (hb9.cell (by simp <;> omega)).trans (by go_simp)
      clear z_by
      have z_by := World.block_lt_of_cell? _ _ c_by_0
      clear z_p
      have z_p := World.block_lt_of_cell? _ _ c_p_0
      clear z_q
      have z_q := World.block_lt_of_cell? _ _ c_q_0
      have z_r := World.block_lt_of_cell? _ _ c_r_0
      clear z_u
      have z_u := World.block_lt_of_cell? _ _ c_u_0
      clear z_v
      have z_v := World.block_lt_of_cell? _ _ c_v_0
      have hB9 := below_two hB8 hs9
      clear hB8 hs9 hb9
      rw [HW.out]
      simp only [upV]
      go_wp2_with fail
      have hR' := hR.below (hB9.alloc hB9.size (.cells #[.int .i64 0, .int .i64 0, .int .i64 0] 23))
      refine (right_any _ _ _ _ hR').mono ?_
      rintro e w10 ⟨rfl, hb10⟩
      clear hR'
      have hs10 : Below w9.heap.size w9 w10 := Below.trans (by repeat (first | exact Below.refl _ _ | refine Below.alloc ?_ (by simp <;> omega) _)) (hb10.mono (by simp <;> omega))
      replace c_p_0 := cell_later hs10 c_p_0
      replace c_p_1 := cell_later hs10 c_p_1
      replace c_p_2 := cell_later hs10 c_p_2
      replace c_u_0 := cell_later hs10 c_u_0
      replace c_u_1 := cell_later hs10 c_u_1
      replace c_v_0 := cell_later hs10 c_v_0
      replace c_v_1 := cell_later hs10 c_v_1
      replace c_q_0 := cell_later hs10 c_q_0
      replace c_q_1 := cell_later hs10 c_q_1
      replace c_q_2 := cell_later hs10 c_q_2
      replace c_by_0 := cell_later hs10 c_by_0
      replace c_by_1 := cell_later hs10 c_by_1
      replace c_r_0 := cell_later hs10 c_r_0
      replace c_r_1 := cell_later hs10 c_r_1
      replace c_r_2 := cell_later hs10 c_r_2
      have c_s_0 : w10.cell? ⟨w9.heap.size, 0, none⟩ = some (.int .i64 0) := (hb10.cell (by simp <;> omega)).trans (by go_simp)
      have c_s_1 : w10.cell? ⟨w9.heap.size, 1, none⟩ = some (.int .i64 0) := (hb10.cell (by simp <;> omega)).trans (by go_simp)
      have c_s_2 : w10.cell? ⟨w9.heap.size, 2, none⟩ = some (.int .i64 0) := (hb10.cell (by simp <;> omega)).trans (by go_simp)
      clear z_by
      have z_by := World.block_lt_of_cell? _ _ c_by_0
      clear z_p
      have z_p := World.block_lt_of_cell? _ _ c_p_0
      clear z_q
      have z_q := World.block_lt_of_cell? _ _ c_q_0
      clear z_r
      have z_r := World.block_lt_of_cell? _ _ c_r_0
      have z_s := World.block_lt_of_cell? _ _ c_s_0
      clear z_u
      have z_u := World.block_lt_of_cell? _ _ c_u_0
      clear z_v
      have z_v := World.block_lt_of_cell? _ _ c_v_0
      have hB10 := below_two hB9 hs10
      clear hB9 hs10 hb10
      rw [HQ.out]
      go_wp2
      go_ret
      exact ⟨rfl, hB10⟩

theorem pitchChain_calls (a1 a2 a3 x1 x2 y1 y2 : Int) (h1 : Pit.I64 a1) (h2 : Pit.I64 a2) (h3 : Pit.I64 a3) (i1 : Pit.I64 x1) (i2 : Pit.I64 x2) (i3 : Pit.I64 y1) (i4 : Pit.I64 y2) (w : World) (hR : Ready w) : LawHolds 7 #[pt a1 a2 a3, iv x1 x2, iv y1 y2] w := by
  obtain ⟨s, b, o, hr, hA⟩ := pitch_fix a1 a2 a3 h1 h2 h3
  obtain ⟨p1, q1⟩ := pickS_bounds x1 (n := 31) (by decide)
  obtain ⟨p2, q2⟩ := pickS_bounds x2 (n := 51) (by decide)
  obtain ⟨p3, q3⟩ := pickS_bounds y1 (n := 31) (by decide)
  obtain ⟨p4, q4⟩ := pickS_bounds y2 (n := 51) (by decide)
  generalize hk1 : pickS x1 31 = k1 at *
  generalize hk2 : pickS x2 51 = k2 at *
  generalize hk3 : pickS y1 31 = k3 at *
  generalize hk4 : pickS y2 51 = k4 at *
  have e1 : IntKind.i64.wrap (k1 - 15) = k1 - 15 := IntWalk.i64_in _ (by omega)
  have e2 : IntKind.i64.wrap (k2 - 25) = k2 - 25 := IntWalk.i64_in _ (by omega)
  have e3 : IntKind.i64.wrap (k3 - 15) = k3 - 15 := IntWalk.i64_in _ (by omega)
  have e4 : IntKind.i64.wrap (k4 - 25) = k4 - 25 := IntWalk.i64_in _ (by omega)
  cases hu : Pit.up s b o (k1 - 15) (k2 - 25) with
  | none => exact chain_none a1 a2 a3 x1 x2 y1 y2 s b o w hR (Lib.hid hA) i1 i2 i3 i4 k1 k2 k3 k4 _ _ _ _ (Lib.hid hk1) (Lib.hid hk2) (Lib.hid hk3) (Lib.hid hk4) e1 e2 e3 e4 (Lib.hid hu)
  | some x =>
    obtain ⟨t, c, p⟩ := x
    obtain ⟨_, hq, hl, hn⟩ := Pit.up_sound hu
    cases hv : Pit.up t c p (k3 - 15) (k4 - 25) with
    | some y =>
      obtain ⟨d, e, f⟩ := y
      obtain ⟨_, hv', hl', hn'⟩ := Pit.up_sound hv
      have hw := Pit.up_complete (S := k1 - 15 + (k3 - 15)) (H := k2 - 25 + (k4 - 25)) hr hv' (by omega) (by omega)
      exact chain_both a1 a2 a3 x1 x2 y1 y2 s b o w hR (Lib.hid hA) i1 i2 i3 i4 k1 k2 k3 k4 _ _ _ _ (Lib.hid hk1) (Lib.hid hk2) (Lib.hid hk3) (Lib.hid hk4) e1 e2 e3 e4 (by omega) (by omega) (by omega) (by omega) (by omega) (by omega) (by omega) (by omega) t c p (Lib.hid hu) (Lib.hid (Pit.right_true hr)) (Lib.hid (Pit.right_true hq)) (Lib.hid (by omega)) (Lib.hid (by omega)) d e f (Lib.hid hv) (Lib.hid hw)
    | none =>
      have hw : Pit.up s b o (k1 - 15 + (k3 - 15)) (k2 - 25 + (k4 - 25)) = none := Pit.up_none fun d e f _ hd hl' hn' => by
        rw [Pit.up_complete hq hd (by omega) (by omega)] at hv
        cases hv
      exact chain_one a1 a2 a3 x1 x2 y1 y2 s b o w hR (Lib.hid hA) i1 i2 i3 i4 k1 k2 k3 k4 _ _ _ _ (Lib.hid hk1) (Lib.hid hk2) (Lib.hid hk3) (Lib.hid hk4) e1 e2 e3 e4 (by omega) (by omega) (by omega) (by omega) (by omega) (by omega) (by omega) (by omega) t c p (Lib.hid hu) (Lib.hid (Pit.right_true hr)) (Lib.hid (Pit.right_true hq)) (Lib.hid (by omega)) (Lib.hid (by omega)) (Lib.hid hv) (Lib.hid hw)
end Go.Proofs.YtoopchnncjfjoaaDoor
