/-
  KeyMoveBack holds: the law's walk.
-/
import Derived.Test.YtahcbgngdpjhkaaDoorKeyL
import Derived.Test.YtahcbgngdpjhkaaDoorKeyRow
namespace Go.Proofs.YtahcbgngdpjhkaaDoor
open Go.RowKit

set_option maxRecDepth 100000 in
set_option maxHeartbeats 4000000 in
theorem mback_no30 (f : Int) (m : Bool) (S H X Y : Int) (w : World) (hR : Lett w) (H1 : Hid (∀ w, Calls Tryd.prog 27 #[ky f m, iv S H] w fun e w' => e = .returned (kv 0 false 30) ∧ Below w.heap.size w w')) :
    Calls Tryd.prog 10 #[ky f m, iv S H, iv X Y] w fun e w' => e = .returned (.bool true) ∧ Below w.heap.size w w' := by
  have hgP := guardP
  have hgK := guardK
  have heP := eql_pt
  have heK := eql_ky
  have hnP := neq_pt
  have hnK := neq_ky
  have hsP := eqP_self
  have hsK := eqK_self
  have hB0 : Below w.heap.size w w := Below.refl _ _
  go_enter Tryd.func10, Tryd.ntmps10
  go_wp2_with fail
  have hR' := hR.below (((hB0.alloc hB0.size (.cells #[.int .i64 f, .bool m] 23)).alloc (hB0.alloc hB0.size (.cells #[.int .i64 f, .bool m] 23)).size (.cells #[.int .i64 S, .int .i64 H] 37)).alloc ((hB0.alloc hB0.size (.cells #[.int .i64 f, .bool m] 23)).alloc (hB0.alloc hB0.size (.cells #[.int .i64 f, .bool m] 23)).size (.cells #[.int .i64 S, .int .i64 H] 37)).size (.cells #[.int .i64 X, .int .i64 Y] 37))
  refine (awake_any _ hR').mono ?_
  rintro e w1 ⟨rfl, hb1⟩
  clear hR'
  have hs1 : Below w.heap.size w w1 := Below.trans (by repeat (first | exact Below.refl _ _ | refine Below.alloc ?_ (by simp <;> omega) _)) (hb1.mono (by simp <;> omega))
  have c_k_0 : w1.cell? ⟨w.heap.size, 0, none⟩ = some (.int .i64 f) := (hb1.cell (by simp <;> omega)).trans (by go_simp)
  have c_k_1 : w1.cell? ⟨w.heap.size, 1, none⟩ = some (.bool m) := (hb1.cell (by simp <;> omega)).trans (by go_simp)
  have c_a_0 : w1.cell? ⟨w.heap.size + 1, 0, none⟩ = some (.int .i64 S) := (hb1.cell (by simp <;> omega)).trans (by go_simp)
  have c_a_1 : w1.cell? ⟨w.heap.size + 1, 1, none⟩ = some (.int .i64 H) := (hb1.cell (by simp <;> omega)).trans (by go_simp)
  have c_b_0 : w1.cell? ⟨w.heap.size + 1 + 1, 0, none⟩ = some (.int .i64 X) := (hb1.cell (by simp <;> omega)).trans (by go_simp)
  have c_b_1 : w1.cell? ⟨w.heap.size + 1 + 1, 1, none⟩ = some (.int .i64 Y) := (hb1.cell (by simp <;> omega)).trans (by go_simp)
  have z_a := World.block_lt_of_cell? _ _ c_a_0
  have z_b := World.block_lt_of_cell? _ _ c_b_0
  have z_k := World.block_lt_of_cell? _ _ c_k_0
  have hB1 := below_two hB0 hs1
  clear hB0 hs1 hb1
  go_wp2_with fail
  have hR' := hR.below hB1
  refine (H1.out _).mono ?_
  rintro e w2 ⟨rfl, hb2⟩
  clear hR'
  have hs2 := hb2
  replace c_k_0 := cell_later hs2 c_k_0
  replace c_k_1 := cell_later hs2 c_k_1
  replace c_a_0 := cell_later hs2 c_a_0
  replace c_a_1 := cell_later hs2 c_a_1
  replace c_b_0 := cell_later hs2 c_b_0
  replace c_b_1 := cell_later hs2 c_b_1
  clear z_a
  have z_a := World.block_lt_of_cell? _ _ c_a_0
  clear z_b
  have z_b := World.block_lt_of_cell? _ _ c_b_0
  clear z_k
  have z_k := World.block_lt_of_cell? _ _ c_k_0
  have hB2 := below_two hB1 hs2
  clear hB1 hs2
  go_wp2
  go_ret
  exact ⟨rfl, (hB2.alloc hB2.size (.cells #[.int .i64 0, .bool false] 23))⟩

set_option maxRecDepth 100000 in
set_option maxHeartbeats 4000000 in
theorem mback_no2 (f : Int) (m : Bool) (S H X Y : Int) (w : World) (hR : Lett w) (H1 : Hid (∀ w, Calls Tryd.prog 27 #[ky f m, iv S H] w fun e w' => e = .returned (kv 0 false 2) ∧ Below w.heap.size w w')) :
    Calls Tryd.prog 10 #[ky f m, iv S H, iv X Y] w fun e w' => e = .returned (.bool true) ∧ Below w.heap.size w w' := by
  have hgP := guardP
  have hgK := guardK
  have heP := eql_pt
  have heK := eql_ky
  have hnP := neq_pt
  have hnK := neq_ky
  have hsP := eqP_self
  have hsK := eqK_self
  have hB0 : Below w.heap.size w w := Below.refl _ _
  go_enter Tryd.func10, Tryd.ntmps10
  go_wp2_with fail
  have hR' := hR.below (((hB0.alloc hB0.size (.cells #[.int .i64 f, .bool m] 23)).alloc (hB0.alloc hB0.size (.cells #[.int .i64 f, .bool m] 23)).size (.cells #[.int .i64 S, .int .i64 H] 37)).alloc ((hB0.alloc hB0.size (.cells #[.int .i64 f, .bool m] 23)).alloc (hB0.alloc hB0.size (.cells #[.int .i64 f, .bool m] 23)).size (.cells #[.int .i64 S, .int .i64 H] 37)).size (.cells #[.int .i64 X, .int .i64 Y] 37))
  refine (awake_any _ hR').mono ?_
  rintro e w1 ⟨rfl, hb1⟩
  clear hR'
  have hs1 : Below w.heap.size w w1 := Below.trans (by repeat (first | exact Below.refl _ _ | refine Below.alloc ?_ (by simp <;> omega) _)) (hb1.mono (by simp <;> omega))
  have c_k_0 : w1.cell? ⟨w.heap.size, 0, none⟩ = some (.int .i64 f) := (hb1.cell (by simp <;> omega)).trans (by go_simp)
  have c_k_1 : w1.cell? ⟨w.heap.size, 1, none⟩ = some (.bool m) := (hb1.cell (by simp <;> omega)).trans (by go_simp)
  have c_a_0 : w1.cell? ⟨w.heap.size + 1, 0, none⟩ = some (.int .i64 S) := (hb1.cell (by simp <;> omega)).trans (by go_simp)
  have c_a_1 : w1.cell? ⟨w.heap.size + 1, 1, none⟩ = some (.int .i64 H) := (hb1.cell (by simp <;> omega)).trans (by go_simp)
  have c_b_0 : w1.cell? ⟨w.heap.size + 1 + 1, 0, none⟩ = some (.int .i64 X) := (hb1.cell (by simp <;> omega)).trans (by go_simp)
  have c_b_1 : w1.cell? ⟨w.heap.size + 1 + 1, 1, none⟩ = some (.int .i64 Y) := (hb1.cell (by simp <;> omega)).trans (by go_simp)
  have z_a := World.block_lt_of_cell? _ _ c_a_0
  have z_b := World.block_lt_of_cell? _ _ c_b_0
  have z_k := World.block_lt_of_cell? _ _ c_k_0
  have hB1 := below_two hB0 hs1
  clear hB0 hs1 hb1
  go_wp2_with fail
  have hR' := hR.below hB1
  refine (H1.out _).mono ?_
  rintro e w2 ⟨rfl, hb2⟩
  clear hR'
  have hs2 := hb2
  replace c_k_0 := cell_later hs2 c_k_0
  replace c_k_1 := cell_later hs2 c_k_1
  replace c_a_0 := cell_later hs2 c_a_0
  replace c_a_1 := cell_later hs2 c_a_1
  replace c_b_0 := cell_later hs2 c_b_0
  replace c_b_1 := cell_later hs2 c_b_1
  clear z_a
  have z_a := World.block_lt_of_cell? _ _ c_a_0
  clear z_b
  have z_b := World.block_lt_of_cell? _ _ c_b_0
  clear z_k
  have z_k := World.block_lt_of_cell? _ _ c_k_0
  have hB2 := below_two hB1 hs2
  clear hB1 hs2
  go_wp2
  go_ret
  exact ⟨rfl, (hB2.alloc hB2.size (.cells #[.int .i64 0, .bool false] 23))⟩

set_option maxRecDepth 100000 in
set_option maxHeartbeats 4000000 in
theorem mback_one30 (f g : Int) (m : Bool) (S H X Y : Int) (w : World) (hR : Lett w) (s0 : -70 ≤ S) (s1 : S ≤ 70) (g0 : -120 ≤ H) (g1 : H ≤ 120) (H1 : Hid (∀ w, Calls Tryd.prog 27 #[ky f m, iv S H] w fun e w' => e = .returned (kv g m 0) ∧ Below w.heap.size w w')) (H2 : Hid (∀ w, Calls Tryd.prog 27 #[ky g m, iv (-S) (-H)] w fun e w' => e = .returned (kv f m 0) ∧ Below w.heap.size w w')) (H3 : Hid (∀ w, Calls Tryd.prog 27 #[ky g m, iv X Y] w fun e w' => e = .returned (kv 0 false 30) ∧ Below w.heap.size w w')) :
    Calls Tryd.prog 10 #[ky f m, iv S H, iv X Y] w fun e w' => e = .returned (.bool true) ∧ Below w.heap.size w w' := by
  have hgP := guardP
  have hgK := guardK
  have heP := eql_pt
  have heK := eql_ky
  have hnP := neq_pt
  have hnK := neq_ky
  have hsP := eqP_self
  have hsK := eqK_self
  have hB0 : Below w.heap.size w w := Below.refl _ _
  go_enter Tryd.func10, Tryd.ntmps10
  go_wp2_with fail
  have hR' := hR.below (((hB0.alloc hB0.size (.cells #[.int .i64 f, .bool m] 23)).alloc (hB0.alloc hB0.size (.cells #[.int .i64 f, .bool m] 23)).size (.cells #[.int .i64 S, .int .i64 H] 37)).alloc ((hB0.alloc hB0.size (.cells #[.int .i64 f, .bool m] 23)).alloc (hB0.alloc hB0.size (.cells #[.int .i64 f, .bool m] 23)).size (.cells #[.int .i64 S, .int .i64 H] 37)).size (.cells #[.int .i64 X, .int .i64 Y] 37))
  refine (awake_any _ hR').mono ?_
  rintro e w1 ⟨rfl, hb1⟩
  clear hR'
  have hs1 : Below w.heap.size w w1 := Below.trans (by repeat (first | exact Below.refl _ _ | refine Below.alloc ?_ (by simp <;> omega) _)) (hb1.mono (by simp <;> omega))
  have c_k_0 : w1.cell? ⟨w.heap.size, 0, none⟩ = some (.int .i64 f) := (hb1.cell (by simp <;> omega)).trans (by go_simp)
  have c_k_1 : w1.cell? ⟨w.heap.size, 1, none⟩ = some (.bool m) := (hb1.cell (by simp <;> omega)).trans (by go_simp)
  have c_a_0 : w1.cell? ⟨w.heap.size + 1, 0, none⟩ = some (.int .i64 S) := (hb1.cell (by simp <;> omega)).trans (by go_simp)
  have c_a_1 : w1.cell? ⟨w.heap.size + 1, 1, none⟩ = some (.int .i64 H) := (hb1.cell (by simp <;> omega)).trans (by go_simp)
  have c_b_0 : w1.cell? ⟨w.heap.size + 1 + 1, 0, none⟩ = some (.int .i64 X) := (hb1.cell (by simp <;> omega)).trans (by go_simp)
  have c_b_1 : w1.cell? ⟨w.heap.size + 1 + 1, 1, none⟩ = some (.int .i64 Y) := (hb1.cell (by simp <;> omega)).trans (by go_simp)
  have z_a := World.block_lt_of_cell? _ _ c_a_0
  have z_b := World.block_lt_of_cell? _ _ c_b_0
  have z_k := World.block_lt_of_cell? _ _ c_k_0
  have hB1 := below_two hB0 hs1
  clear hB0 hs1 hb1
  go_wp2_with fail
  have hR' := hR.below hB1
  refine (H1.out _).mono ?_
  rintro e w2 ⟨rfl, hb2⟩
  clear hR'
  have hs2 := hb2
  replace c_k_0 := cell_later hs2 c_k_0
  replace c_k_1 := cell_later hs2 c_k_1
  replace c_a_0 := cell_later hs2 c_a_0
  replace c_a_1 := cell_later hs2 c_a_1
  replace c_b_0 := cell_later hs2 c_b_0
  replace c_b_1 := cell_later hs2 c_b_1
  clear z_a
  have z_a := World.block_lt_of_cell? _ _ c_a_0
  clear z_b
  have z_b := World.block_lt_of_cell? _ _ c_b_0
  clear z_k
  have z_k := World.block_lt_of_cell? _ _ c_k_0
  have hB2 := below_two hB1 hs2
  clear hB1 hs2
  go_wp2_with fail
  have hR' := hR.below (hB2.alloc hB2.size (.cells #[.int .i64 g, .bool m] 23))
  refine (H2.out _).mono ?_
  rintro e w3 ⟨rfl, hb3⟩
  clear hR'
  have hs3 : Below w2.heap.size w2 w3 := Below.trans (by repeat (first | exact Below.refl _ _ | refine Below.alloc ?_ (by simp <;> omega) _)) (hb3.mono (by simp <;> omega))
  replace c_k_0 := cell_later hs3 c_k_0
  replace c_k_1 := cell_later hs3 c_k_1
  replace c_a_0 := cell_later hs3 c_a_0
  replace c_a_1 := cell_later hs3 c_a_1
  replace c_b_0 := cell_later hs3 c_b_0
  replace c_b_1 := cell_later hs3 c_b_1
  have c_m_0 : w3.cell? ⟨w2.heap.size, 0, none⟩ = some (.int .i64 g) := (hb3.cell (by simp <;> omega)).trans (by go_simp)
  have c_m_1 : w3.cell? ⟨w2.heap.size, 1, none⟩ = some (.bool m) := (hb3.cell (by simp <;> omega)).trans (by go_simp)
  clear z_a
  have z_a := World.block_lt_of_cell? _ _ c_a_0
  clear z_b
  have z_b := World.block_lt_of_cell? _ _ c_b_0
  clear z_k
  have z_k := World.block_lt_of_cell? _ _ c_k_0
  have z_m := World.block_lt_of_cell? _ _ c_m_0
  have hB3 := below_two hB2 hs3
  clear hB2 hs3 hb3
  go_wp2_with fail
  have hR' := hR.below (hB3.alloc hB3.size (.cells #[.int .i64 f, .bool m] 23))
  refine (H3.out _).mono ?_
  rintro e w4 ⟨rfl, hb4⟩
  clear hR'
  have hs4 : Below w3.heap.size w3 w4 := Below.trans (by repeat (first | exact Below.refl _ _ | refine Below.alloc ?_ (by simp <;> omega) _)) (hb4.mono (by simp <;> omega))
  replace c_k_0 := cell_later hs4 c_k_0
  replace c_k_1 := cell_later hs4 c_k_1
  replace c_a_0 := cell_later hs4 c_a_0
  replace c_a_1 := cell_later hs4 c_a_1
  replace c_b_0 := cell_later hs4 c_b_0
  replace c_b_1 := cell_later hs4 c_b_1
  replace c_m_0 := cell_later hs4 c_m_0
  replace c_m_1 := cell_later hs4 c_m_1
  have c_n_0 : w4.cell? ⟨w3.heap.size, 0, none⟩ = some (.int .i64 f) := (hb4.cell (by simp <;> omega)).trans (by go_simp)
  have c_n_1 : w4.cell? ⟨w3.heap.size, 1, none⟩ = some (.bool m) := (hb4.cell (by simp <;> omega)).trans (by go_simp)
  clear z_a
  have z_a := World.block_lt_of_cell? _ _ c_a_0
  clear z_b
  have z_b := World.block_lt_of_cell? _ _ c_b_0
  clear z_k
  have z_k := World.block_lt_of_cell? _ _ c_k_0
  clear z_m
  have z_m := World.block_lt_of_cell? _ _ c_m_0
  have z_n := World.block_lt_of_cell? _ _ c_n_0
  have hB4 := below_two hB3 hs4
  clear hB3 hs4 hb4
  go_wp2
  go_ret
  exact ⟨rfl, (hB4.alloc hB4.size (.cells #[.int .i64 0, .bool false] 23))⟩

set_option maxRecDepth 100000 in
set_option maxHeartbeats 4000000 in
theorem mback_one2 (f g : Int) (m : Bool) (S H X Y : Int) (w : World) (hR : Lett w) (s0 : -70 ≤ S) (s1 : S ≤ 70) (g0 : -120 ≤ H) (g1 : H ≤ 120) (H1 : Hid (∀ w, Calls Tryd.prog 27 #[ky f m, iv S H] w fun e w' => e = .returned (kv g m 0) ∧ Below w.heap.size w w')) (H2 : Hid (∀ w, Calls Tryd.prog 27 #[ky g m, iv (-S) (-H)] w fun e w' => e = .returned (kv f m 0) ∧ Below w.heap.size w w')) (H3 : Hid (∀ w, Calls Tryd.prog 27 #[ky g m, iv X Y] w fun e w' => e = .returned (kv 0 false 2) ∧ Below w.heap.size w w')) :
    Calls Tryd.prog 10 #[ky f m, iv S H, iv X Y] w fun e w' => e = .returned (.bool true) ∧ Below w.heap.size w w' := by
  have hgP := guardP
  have hgK := guardK
  have heP := eql_pt
  have heK := eql_ky
  have hnP := neq_pt
  have hnK := neq_ky
  have hsP := eqP_self
  have hsK := eqK_self
  have hB0 : Below w.heap.size w w := Below.refl _ _
  go_enter Tryd.func10, Tryd.ntmps10
  go_wp2_with fail
  have hR' := hR.below (((hB0.alloc hB0.size (.cells #[.int .i64 f, .bool m] 23)).alloc (hB0.alloc hB0.size (.cells #[.int .i64 f, .bool m] 23)).size (.cells #[.int .i64 S, .int .i64 H] 37)).alloc ((hB0.alloc hB0.size (.cells #[.int .i64 f, .bool m] 23)).alloc (hB0.alloc hB0.size (.cells #[.int .i64 f, .bool m] 23)).size (.cells #[.int .i64 S, .int .i64 H] 37)).size (.cells #[.int .i64 X, .int .i64 Y] 37))
  refine (awake_any _ hR').mono ?_
  rintro e w1 ⟨rfl, hb1⟩
  clear hR'
  have hs1 : Below w.heap.size w w1 := Below.trans (by repeat (first | exact Below.refl _ _ | refine Below.alloc ?_ (by simp <;> omega) _)) (hb1.mono (by simp <;> omega))
  have c_k_0 : w1.cell? ⟨w.heap.size, 0, none⟩ = some (.int .i64 f) := (hb1.cell (by simp <;> omega)).trans (by go_simp)
  have c_k_1 : w1.cell? ⟨w.heap.size, 1, none⟩ = some (.bool m) := (hb1.cell (by simp <;> omega)).trans (by go_simp)
  have c_a_0 : w1.cell? ⟨w.heap.size + 1, 0, none⟩ = some (.int .i64 S) := (hb1.cell (by simp <;> omega)).trans (by go_simp)
  have c_a_1 : w1.cell? ⟨w.heap.size + 1, 1, none⟩ = some (.int .i64 H) := (hb1.cell (by simp <;> omega)).trans (by go_simp)
  have c_b_0 : w1.cell? ⟨w.heap.size + 1 + 1, 0, none⟩ = some (.int .i64 X) := (hb1.cell (by simp <;> omega)).trans (by go_simp)
  have c_b_1 : w1.cell? ⟨w.heap.size + 1 + 1, 1, none⟩ = some (.int .i64 Y) := (hb1.cell (by simp <;> omega)).trans (by go_simp)
  have z_a := World.block_lt_of_cell? _ _ c_a_0
  have z_b := World.block_lt_of_cell? _ _ c_b_0
  have z_k := World.block_lt_of_cell? _ _ c_k_0
  have hB1 := below_two hB0 hs1
  clear hB0 hs1 hb1
  go_wp2_with fail
  have hR' := hR.below hB1
  refine (H1.out _).mono ?_
  rintro e w2 ⟨rfl, hb2⟩
  clear hR'
  have hs2 := hb2
  replace c_k_0 := cell_later hs2 c_k_0
  replace c_k_1 := cell_later hs2 c_k_1
  replace c_a_0 := cell_later hs2 c_a_0
  replace c_a_1 := cell_later hs2 c_a_1
  replace c_b_0 := cell_later hs2 c_b_0
  replace c_b_1 := cell_later hs2 c_b_1
  clear z_a
  have z_a := World.block_lt_of_cell? _ _ c_a_0
  clear z_b
  have z_b := World.block_lt_of_cell? _ _ c_b_0
  clear z_k
  have z_k := World.block_lt_of_cell? _ _ c_k_0
  have hB2 := below_two hB1 hs2
  clear hB1 hs2
  go_wp2_with fail
  have hR' := hR.below (hB2.alloc hB2.size (.cells #[.int .i64 g, .bool m] 23))
  refine (H2.out _).mono ?_
  rintro e w3 ⟨rfl, hb3⟩
  clear hR'
  have hs3 : Below w2.heap.size w2 w3 := Below.trans (by repeat (first | exact Below.refl _ _ | refine Below.alloc ?_ (by simp <;> omega) _)) (hb3.mono (by simp <;> omega))
  replace c_k_0 := cell_later hs3 c_k_0
  replace c_k_1 := cell_later hs3 c_k_1
  replace c_a_0 := cell_later hs3 c_a_0
  replace c_a_1 := cell_later hs3 c_a_1
  replace c_b_0 := cell_later hs3 c_b_0
  replace c_b_1 := cell_later hs3 c_b_1
  have c_m_0 : w3.cell? ⟨w2.heap.size, 0, none⟩ = some (.int .i64 g) := (hb3.cell (by simp <;> omega)).trans (by go_simp)
  have c_m_1 : w3.cell? ⟨w2.heap.size, 1, none⟩ = some (.bool m) := (hb3.cell (by simp <;> omega)).trans (by go_simp)
  clear z_a
  have z_a := World.block_lt_of_cell? _ _ c_a_0
  clear z_b
  have z_b := World.block_lt_of_cell? _ _ c_b_0
  clear z_k
  have z_k := World.block_lt_of_cell? _ _ c_k_0
  have z_m := World.block_lt_of_cell? _ _ c_m_0
  have hB3 := below_two hB2 hs3
  clear hB2 hs3 hb3
  go_wp2_with fail
  have hR' := hR.below (hB3.alloc hB3.size (.cells #[.int .i64 f, .bool m] 23))
  refine (H3.out _).mono ?_
  rintro e w4 ⟨rfl, hb4⟩
  clear hR'
  have hs4 : Below w3.heap.size w3 w4 := Below.trans (by repeat (first | exact Below.refl _ _ | refine Below.alloc ?_ (by simp <;> omega) _)) (hb4.mono (by simp <;> omega))
  replace c_k_0 := cell_later hs4 c_k_0
  replace c_k_1 := cell_later hs4 c_k_1
  replace c_a_0 := cell_later hs4 c_a_0
  replace c_a_1 := cell_later hs4 c_a_1
  replace c_b_0 := cell_later hs4 c_b_0
  replace c_b_1 := cell_later hs4 c_b_1
  replace c_m_0 := cell_later hs4 c_m_0
  replace c_m_1 := cell_later hs4 c_m_1
  have c_n_0 : w4.cell? ⟨w3.heap.size, 0, none⟩ = some (.int .i64 f) := (hb4.cell (by simp <;> omega)).trans (by go_simp)
  have c_n_1 : w4.cell? ⟨w3.heap.size, 1, none⟩ = some (.bool m) := (hb4.cell (by simp <;> omega)).trans (by go_simp)
  clear z_a
  have z_a := World.block_lt_of_cell? _ _ c_a_0
  clear z_b
  have z_b := World.block_lt_of_cell? _ _ c_b_0
  clear z_k
  have z_k := World.block_lt_of_cell? _ _ c_k_0
  clear z_m
  have z_m := World.block_lt_of_cell? _ _ c_m_0
  have z_n := World.block_lt_of_cell? _ _ c_n_0
  have hB4 := below_two hB3 hs4
  clear hB3 hs4 hb4
  go_wp2
  go_ret
  exact ⟨rfl, (hB4.alloc hB4.size (.cells #[.int .i64 0, .bool false] 23))⟩

set_option maxRecDepth 100000 in
set_option maxHeartbeats 4000000 in
theorem mback_two0 (f g u : Int) (m : Bool) (S H X Y : Int) (w : World) (hR : Lett w) (s0 : -70 ≤ S) (s1 : S ≤ 70) (g0 : -120 ≤ H) (g1 : H ≤ 120) (x0 : -70 ≤ X) (x1 : X ≤ 70) (y0 : -120 ≤ Y) (y1 : Y ≤ 120) (H1 : Hid (∀ w, Calls Tryd.prog 27 #[ky f m, iv S H] w fun e w' => e = .returned (kv g m 0) ∧ Below w.heap.size w w')) (H2 : Hid (∀ w, Calls Tryd.prog 27 #[ky g m, iv (-S) (-H)] w fun e w' => e = .returned (kv f m 0) ∧ Below w.heap.size w w')) (H3 : Hid (∀ w, Calls Tryd.prog 27 #[ky g m, iv X Y] w fun e w' => e = .returned (kv u m 0) ∧ Below w.heap.size w w')) (H4 : Hid (∀ w, Calls Tryd.prog 27 #[ky f m, iv (S + X) (H + Y)] w fun e w' => e = .returned (kv u m 0) ∧ Below w.heap.size w w')) :
    Calls Tryd.prog 10 #[ky f m, iv S H, iv X Y] w fun e w' => e = .returned (.bool true) ∧ Below w.heap.size w w' := by
  have hgP := guardP
  have hgK := guardK
  have heP := eql_pt
  have heK := eql_ky
  have hnP := neq_pt
  have hnK := neq_ky
  have hsP := eqP_self
  have hsK := eqK_self
  have hB0 : Below w.heap.size w w := Below.refl _ _
  go_enter Tryd.func10, Tryd.ntmps10
  go_wp2_with fail
  have hR' := hR.below (((hB0.alloc hB0.size (.cells #[.int .i64 f, .bool m] 23)).alloc (hB0.alloc hB0.size (.cells #[.int .i64 f, .bool m] 23)).size (.cells #[.int .i64 S, .int .i64 H] 37)).alloc ((hB0.alloc hB0.size (.cells #[.int .i64 f, .bool m] 23)).alloc (hB0.alloc hB0.size (.cells #[.int .i64 f, .bool m] 23)).size (.cells #[.int .i64 S, .int .i64 H] 37)).size (.cells #[.int .i64 X, .int .i64 Y] 37))
  refine (awake_any _ hR').mono ?_
  rintro e w1 ⟨rfl, hb1⟩
  clear hR'
  have hs1 : Below w.heap.size w w1 := Below.trans (by repeat (first | exact Below.refl _ _ | refine Below.alloc ?_ (by simp <;> omega) _)) (hb1.mono (by simp <;> omega))
  have c_k_0 : w1.cell? ⟨w.heap.size, 0, none⟩ = some (.int .i64 f) := (hb1.cell (by simp <;> omega)).trans (by go_simp)
  have c_k_1 : w1.cell? ⟨w.heap.size, 1, none⟩ = some (.bool m) := (hb1.cell (by simp <;> omega)).trans (by go_simp)
  have c_a_0 : w1.cell? ⟨w.heap.size + 1, 0, none⟩ = some (.int .i64 S) := (hb1.cell (by simp <;> omega)).trans (by go_simp)
  have c_a_1 : w1.cell? ⟨w.heap.size + 1, 1, none⟩ = some (.int .i64 H) := (hb1.cell (by simp <;> omega)).trans (by go_simp)
  have c_b_0 : w1.cell? ⟨w.heap.size + 1 + 1, 0, none⟩ = some (.int .i64 X) := (hb1.cell (by simp <;> omega)).trans (by go_simp)
  have c_b_1 : w1.cell? ⟨w.heap.size + 1 + 1, 1, none⟩ = some (.int .i64 Y) := (hb1.cell (by simp <;> omega)).trans (by go_simp)
  have z_a := World.block_lt_of_cell? _ _ c_a_0
  have z_b := World.block_lt_of_cell? _ _ c_b_0
  have z_k := World.block_lt_of_cell? _ _ c_k_0
  have hB1 := below_two hB0 hs1
  clear hB0 hs1 hb1
  go_wp2_with fail
  have hR' := hR.below hB1
  refine (H1.out _).mono ?_
  rintro e w2 ⟨rfl, hb2⟩
  clear hR'
  have hs2 := hb2
  replace c_k_0 := cell_later hs2 c_k_0
  replace c_k_1 := cell_later hs2 c_k_1
  replace c_a_0 := cell_later hs2 c_a_0
  replace c_a_1 := cell_later hs2 c_a_1
  replace c_b_0 := cell_later hs2 c_b_0
  replace c_b_1 := cell_later hs2 c_b_1
  clear z_a
  have z_a := World.block_lt_of_cell? _ _ c_a_0
  clear z_b
  have z_b := World.block_lt_of_cell? _ _ c_b_0
  clear z_k
  have z_k := World.block_lt_of_cell? _ _ c_k_0
  have hB2 := below_two hB1 hs2
  clear hB1 hs2
  go_wp2_with fail
  have hR' := hR.below (hB2.alloc hB2.size (.cells #[.int .i64 g, .bool m] 23))
  refine (H2.out _).mono ?_
  rintro e w3 ⟨rfl, hb3⟩
  clear hR'
  have hs3 : Below w2.heap.size w2 w3 := Below.trans (by repeat (first | exact Below.refl _ _ | refine Below.alloc ?_ (by simp <;> omega) _)) (hb3.mono (by simp <;> omega))
  replace c_k_0 := cell_later hs3 c_k_0
  replace c_k_1 := cell_later hs3 c_k_1
  replace c_a_0 := cell_later hs3 c_a_0
  replace c_a_1 := cell_later hs3 c_a_1
  replace c_b_0 := cell_later hs3 c_b_0
  replace c_b_1 := cell_later hs3 c_b_1
  have c_m_0 : w3.cell? ⟨w2.heap.size, 0, none⟩ = some (.int .i64 g) := (hb3.cell (by simp <;> omega)).trans (by go_simp)
  have c_m_1 : w3.cell? ⟨w2.heap.size, 1, none⟩ = some (.bool m) := (hb3.cell (by simp <;> omega)).trans (by go_simp)
  clear z_a
  have z_a := World.block_lt_of_cell? _ _ c_a_0
  clear z_b
  have z_b := World.block_lt_of_cell? _ _ c_b_0
  clear z_k
  have z_k := World.block_lt_of_cell? _ _ c_k_0
  have z_m := World.block_lt_of_cell? _ _ c_m_0
  have hB3 := below_two hB2 hs3
  clear hB2 hs3 hb3
  go_wp2_with fail
  have hR' := hR.below (hB3.alloc hB3.size (.cells #[.int .i64 f, .bool m] 23))
  refine (H3.out _).mono ?_
  rintro e w4 ⟨rfl, hb4⟩
  clear hR'
  have hs4 : Below w3.heap.size w3 w4 := Below.trans (by repeat (first | exact Below.refl _ _ | refine Below.alloc ?_ (by simp <;> omega) _)) (hb4.mono (by simp <;> omega))
  replace c_k_0 := cell_later hs4 c_k_0
  replace c_k_1 := cell_later hs4 c_k_1
  replace c_a_0 := cell_later hs4 c_a_0
  replace c_a_1 := cell_later hs4 c_a_1
  replace c_b_0 := cell_later hs4 c_b_0
  replace c_b_1 := cell_later hs4 c_b_1
  replace c_m_0 := cell_later hs4 c_m_0
  replace c_m_1 := cell_later hs4 c_m_1
  have c_n_0 : w4.cell? ⟨w3.heap.size, 0, none⟩ = some (.int .i64 f) := (hb4.cell (by simp <;> omega)).trans (by go_simp)
  have c_n_1 : w4.cell? ⟨w3.heap.size, 1, none⟩ = some (.bool m) := (hb4.cell (by simp <;> omega)).trans (by go_simp)
  clear z_a
  have z_a := World.block_lt_of_cell? _ _ c_a_0
  clear z_b
  have z_b := World.block_lt_of_cell? _ _ c_b_0
  clear z_k
  have z_k := World.block_lt_of_cell? _ _ c_k_0
  clear z_m
  have z_m := World.block_lt_of_cell? _ _ c_m_0
  have z_n := World.block_lt_of_cell? _ _ c_n_0
  have hB4 := below_two hB3 hs4
  clear hB3 hs4 hb4
  go_wp2_with fail
  have hR' := hR.below (hB4.alloc hB4.size (.cells #[.int .i64 u, .bool m] 23))
  refine (H4.out _).mono ?_
  rintro e w5 ⟨rfl, hb5⟩
  clear hR'
  have hs5 : Below w4.heap.size w4 w5 := Below.trans (by repeat (first | exact Below.refl _ _ | refine Below.alloc ?_ (by simp <;> omega) _)) (hb5.mono (by simp <;> omega))
  replace c_k_0 := cell_later hs5 c_k_0
  replace c_k_1 := cell_later hs5 c_k_1
  replace c_a_0 := cell_later hs5 c_a_0
  replace c_a_1 := cell_later hs5 c_a_1
  replace c_b_0 := cell_later hs5 c_b_0
  replace c_b_1 := cell_later hs5 c_b_1
  replace c_m_0 := cell_later hs5 c_m_0
  replace c_m_1 := cell_later hs5 c_m_1
  replace c_n_0 := cell_later hs5 c_n_0
  replace c_n_1 := cell_later hs5 c_n_1
  have c_x_0 : w5.cell? ⟨w4.heap.size, 0, none⟩ = some (.int .i64 u) := (hb5.cell (by simp <;> omega)).trans (by go_simp)
  have c_x_1 : w5.cell? ⟨w4.heap.size, 1, none⟩ = some (.bool m) := (hb5.cell (by simp <;> omega)).trans (by go_simp)
  clear z_a
  have z_a := World.block_lt_of_cell? _ _ c_a_0
  clear z_b
  have z_b := World.block_lt_of_cell? _ _ c_b_0
  clear z_k
  have z_k := World.block_lt_of_cell? _ _ c_k_0
  clear z_m
  have z_m := World.block_lt_of_cell? _ _ c_m_0
  clear z_n
  have z_n := World.block_lt_of_cell? _ _ c_n_0
  have z_x := World.block_lt_of_cell? _ _ c_x_0
  have hB5 := below_two hB4 hs5
  clear hB4 hs5 hb5
  go_wp2
  go_ret
  exact ⟨rfl, (hB5.alloc hB5.size (.cells #[.int .i64 u, .bool m] 23))⟩

set_option maxRecDepth 100000 in
set_option maxHeartbeats 4000000 in
theorem mback_two2 (f g u : Int) (m : Bool) (S H X Y : Int) (w : World) (hR : Lett w) (s0 : -70 ≤ S) (s1 : S ≤ 70) (g0 : -120 ≤ H) (g1 : H ≤ 120) (x0 : -70 ≤ X) (x1 : X ≤ 70) (y0 : -120 ≤ Y) (y1 : Y ≤ 120) (H1 : Hid (∀ w, Calls Tryd.prog 27 #[ky f m, iv S H] w fun e w' => e = .returned (kv g m 0) ∧ Below w.heap.size w w')) (H2 : Hid (∀ w, Calls Tryd.prog 27 #[ky g m, iv (-S) (-H)] w fun e w' => e = .returned (kv f m 0) ∧ Below w.heap.size w w')) (H3 : Hid (∀ w, Calls Tryd.prog 27 #[ky g m, iv X Y] w fun e w' => e = .returned (kv u m 0) ∧ Below w.heap.size w w')) (H4 : Hid (∀ w, Calls Tryd.prog 27 #[ky f m, iv (S + X) (H + Y)] w fun e w' => e = .returned (kv 0 false 2) ∧ Below w.heap.size w w')) :
    Calls Tryd.prog 10 #[ky f m, iv S H, iv X Y] w fun e w' => e = .returned (.bool true) ∧ Below w.heap.size w w' := by
  have hgP := guardP
  have hgK := guardK
  have heP := eql_pt
  have heK := eql_ky
  have hnP := neq_pt
  have hnK := neq_ky
  have hsP := eqP_self
  have hsK := eqK_self
  have hB0 : Below w.heap.size w w := Below.refl _ _
  go_enter Tryd.func10, Tryd.ntmps10
  go_wp2_with fail
  have hR' := hR.below (((hB0.alloc hB0.size (.cells #[.int .i64 f, .bool m] 23)).alloc (hB0.alloc hB0.size (.cells #[.int .i64 f, .bool m] 23)).size (.cells #[.int .i64 S, .int .i64 H] 37)).alloc ((hB0.alloc hB0.size (.cells #[.int .i64 f, .bool m] 23)).alloc (hB0.alloc hB0.size (.cells #[.int .i64 f, .bool m] 23)).size (.cells #[.int .i64 S, .int .i64 H] 37)).size (.cells #[.int .i64 X, .int .i64 Y] 37))
  refine (awake_any _ hR').mono ?_
  rintro e w1 ⟨rfl, hb1⟩
  clear hR'
  have hs1 : Below w.heap.size w w1 := Below.trans (by repeat (first | exact Below.refl _ _ | refine Below.alloc ?_ (by simp <;> omega) _)) (hb1.mono (by simp <;> omega))
  have c_k_0 : w1.cell? ⟨w.heap.size, 0, none⟩ = some (.int .i64 f) := (hb1.cell (by simp <;> omega)).trans (by go_simp)
  have c_k_1 : w1.cell? ⟨w.heap.size, 1, none⟩ = some (.bool m) := (hb1.cell (by simp <;> omega)).trans (by go_simp)
  have c_a_0 : w1.cell? ⟨w.heap.size + 1, 0, none⟩ = some (.int .i64 S) := (hb1.cell (by simp <;> omega)).trans (by go_simp)
  have c_a_1 : w1.cell? ⟨w.heap.size + 1, 1, none⟩ = some (.int .i64 H) := (hb1.cell (by simp <;> omega)).trans (by go_simp)
  have c_b_0 : w1.cell? ⟨w.heap.size + 1 + 1, 0, none⟩ = some (.int .i64 X) := (hb1.cell (by simp <;> omega)).trans (by go_simp)
  have c_b_1 : w1.cell? ⟨w.heap.size + 1 + 1, 1, none⟩ = some (.int .i64 Y) := (hb1.cell (by simp <;> omega)).trans (by go_simp)
  have z_a := World.block_lt_of_cell? _ _ c_a_0
  have z_b := World.block_lt_of_cell? _ _ c_b_0
  have z_k := World.block_lt_of_cell? _ _ c_k_0
  have hB1 := below_two hB0 hs1
  clear hB0 hs1 hb1
  go_wp2_with fail
  have hR' := hR.below hB1
  refine (H1.out _).mono ?_
  rintro e w2 ⟨rfl, hb2⟩
  clear hR'
  have hs2 := hb2
  replace c_k_0 := cell_later hs2 c_k_0
  replace c_k_1 := cell_later hs2 c_k_1
  replace c_a_0 := cell_later hs2 c_a_0
  replace c_a_1 := cell_later hs2 c_a_1
  replace c_b_0 := cell_later hs2 c_b_0
  replace c_b_1 := cell_later hs2 c_b_1
  clear z_a
  have z_a := World.block_lt_of_cell? _ _ c_a_0
  clear z_b
  have z_b := World.block_lt_of_cell? _ _ c_b_0
  clear z_k
  have z_k := World.block_lt_of_cell? _ _ c_k_0
  have hB2 := below_two hB1 hs2
  clear hB1 hs2
  go_wp2_with fail
  have hR' := hR.below (hB2.alloc hB2.size (.cells #[.int .i64 g, .bool m] 23))
  refine (H2.out _).mono ?_
  rintro e w3 ⟨rfl, hb3⟩
  clear hR'
  have hs3 : Below w2.heap.size w2 w3 := Below.trans (by repeat (first | exact Below.refl _ _ | refine Below.alloc ?_ (by simp <;> omega) _)) (hb3.mono (by simp <;> omega))
  replace c_k_0 := cell_later hs3 c_k_0
  replace c_k_1 := cell_later hs3 c_k_1
  replace c_a_0 := cell_later hs3 c_a_0
  replace c_a_1 := cell_later hs3 c_a_1
  replace c_b_0 := cell_later hs3 c_b_0
  replace c_b_1 := cell_later hs3 c_b_1
  have c_m_0 : w3.cell? ⟨w2.heap.size, 0, none⟩ = some (.int .i64 g) := (hb3.cell (by simp <;> omega)).trans (by go_simp)
  have c_m_1 : w3.cell? ⟨w2.heap.size, 1, none⟩ = some (.bool m) := (hb3.cell (by simp <;> omega)).trans (by go_simp)
  clear z_a
  have z_a := World.block_lt_of_cell? _ _ c_a_0
  clear z_b
  have z_b := World.block_lt_of_cell? _ _ c_b_0
  clear z_k
  have z_k := World.block_lt_of_cell? _ _ c_k_0
  have z_m := World.block_lt_of_cell? _ _ c_m_0
  have hB3 := below_two hB2 hs3
  clear hB2 hs3 hb3
  go_wp2_with fail
  have hR' := hR.below (hB3.alloc hB3.size (.cells #[.int .i64 f, .bool m] 23))
  refine (H3.out _).mono ?_
  rintro e w4 ⟨rfl, hb4⟩
  clear hR'
  have hs4 : Below w3.heap.size w3 w4 := Below.trans (by repeat (first | exact Below.refl _ _ | refine Below.alloc ?_ (by simp <;> omega) _)) (hb4.mono (by simp <;> omega))
  replace c_k_0 := cell_later hs4 c_k_0
  replace c_k_1 := cell_later hs4 c_k_1
  replace c_a_0 := cell_later hs4 c_a_0
  replace c_a_1 := cell_later hs4 c_a_1
  replace c_b_0 := cell_later hs4 c_b_0
  replace c_b_1 := cell_later hs4 c_b_1
  replace c_m_0 := cell_later hs4 c_m_0
  replace c_m_1 := cell_later hs4 c_m_1
  have c_n_0 : w4.cell? ⟨w3.heap.size, 0, none⟩ = some (.int .i64 f) := (hb4.cell (by simp <;> omega)).trans (by go_simp)
  have c_n_1 : w4.cell? ⟨w3.heap.size, 1, none⟩ = some (.bool m) := (hb4.cell (by simp <;> omega)).trans (by go_simp)
  clear z_a
  have z_a := World.block_lt_of_cell? _ _ c_a_0
  clear z_b
  have z_b := World.block_lt_of_cell? _ _ c_b_0
  clear z_k
  have z_k := World.block_lt_of_cell? _ _ c_k_0
  clear z_m
  have z_m := World.block_lt_of_cell? _ _ c_m_0
  have z_n := World.block_lt_of_cell? _ _ c_n_0
  have hB4 := below_two hB3 hs4
  clear hB3 hs4 hb4
  go_wp2_with fail
  have hR' := hR.below (hB4.alloc hB4.size (.cells #[.int .i64 u, .bool m] 23))
  refine (H4.out _).mono ?_
  rintro e w5 ⟨rfl, hb5⟩
  clear hR'
  have hs5 : Below w4.heap.size w4 w5 := Below.trans (by repeat (first | exact Below.refl _ _ | refine Below.alloc ?_ (by simp <;> omega) _)) (hb5.mono (by simp <;> omega))
  replace c_k_0 := cell_later hs5 c_k_0
  replace c_k_1 := cell_later hs5 c_k_1
  replace c_a_0 := cell_later hs5 c_a_0
  replace c_a_1 := cell_later hs5 c_a_1
  replace c_b_0 := cell_later hs5 c_b_0
  replace c_b_1 := cell_later hs5 c_b_1
  replace c_m_0 := cell_later hs5 c_m_0
  replace c_m_1 := cell_later hs5 c_m_1
  replace c_n_0 := cell_later hs5 c_n_0
  replace c_n_1 := cell_later hs5 c_n_1
  have c_x_0 : w5.cell? ⟨w4.heap.size, 0, none⟩ = some (.int .i64 u) := (hb5.cell (by simp <;> omega)).trans (by go_simp)
  have c_x_1 : w5.cell? ⟨w4.heap.size, 1, none⟩ = some (.bool m) := (hb5.cell (by simp <;> omega)).trans (by go_simp)
  clear z_a
  have z_a := World.block_lt_of_cell? _ _ c_a_0
  clear z_b
  have z_b := World.block_lt_of_cell? _ _ c_b_0
  clear z_k
  have z_k := World.block_lt_of_cell? _ _ c_k_0
  clear z_m
  have z_m := World.block_lt_of_cell? _ _ c_m_0
  clear z_n
  have z_n := World.block_lt_of_cell? _ _ c_n_0
  have z_x := World.block_lt_of_cell? _ _ c_x_0
  have hB5 := below_two hB4 hs5
  clear hB4 hs5 hb5
  go_wp2
  go_ret
  exact ⟨rfl, (hB5.alloc hB5.size (.cells #[.int .i64 0, .bool false] 23))⟩

/-- A move that is refused answers no key; one that is not leads to a right one. -/
theorem move_cases (f : Int) (m : Bool) (S H : Int) :
    (∀ w, Calls Tryd.prog 27 #[ky f m, iv S H] w fun e w' => e = .returned (kv 0 false 30) ∧ Below w.heap.size w w') ∨
    (∀ w, Calls Tryd.prog 27 #[ky f m, iv S H] w fun e w' => e = .returned (kv 0 false 2) ∧ Below w.heap.size w w') ∨
    ((-7 ≤ f ∧ f ≤ 7) ∧ (-70 ≤ S ∧ S ≤ 70 ∧ -120 ≤ H ∧ H ≤ 120) ∧ (-7 ≤ f + (7 * H - 12 * S) ∧ f + (7 * H - 12 * S) ≤ 7)) := by
  have h := fun w => move_any f m S H w
  unfold Key.mvF Key.mvM Key.mvE at h
  cases hf : Key.okF f
  · rw [hf] at h; exact .inl h
  · rw [hf] at h
    by_cases hr : -70 ≤ S ∧ S ≤ 70 ∧ -120 ≤ H ∧ H ≤ 120
    · rw [decide_eq_true hr] at h
      cases hg : Key.okF (f + (7 * H - 12 * S))
      · rw [hg] at h; exact .inl h
      · exact .inr (.inr ⟨(Key.okF_iff _).1 hf, hr, (Key.okF_iff _).1 hg⟩)
    · rw [decide_eq_false hr] at h; exact .inr (.inl h)
theorem move_to {f S H : Int} (m : Bool) {g : Int} (hf : -7 ≤ f ∧ f ≤ 7) (hr : -70 ≤ S ∧ S ≤ 70 ∧ -120 ≤ H ∧ H ≤ 120) (hg : -7 ≤ g ∧ g ≤ 7) (e : f + (7 * H - 12 * S) = g) :
    Hid (∀ w, Calls Tryd.prog 27 #[ky f m, iv S H] w fun e w' => e = .returned (kv g m 0) ∧ Below w.heap.size w w') := by
  subst e
  exact Lib.hid (fun w => move_yes f m S H w hf.1 hf.2 hr.1 hr.2.1 hr.2.2.1 hr.2.2.2 hg.1 hg.2)

theorem keyMoveBack_calls (f : Int) (m : Bool) (S H X Y : Int) (_ : Pit.I64 f) (_ : Pit.I64 S) (_ : Pit.I64 H) (_ : Pit.I64 X) (_ : Pit.I64 Y) (w : World) (hR : Lett w) : LawHolds 10 #[ky f m, iv S H, iv X Y] w := by
  rcases move_cases f m S H with h | h | ⟨hf, hr, hg⟩
  · exact mback_no30 f m S H X Y w hR (Lib.hid h)
  · exact mback_no2 f m S H X Y w hR (Lib.hid h)
  · have h1 := move_to m hf hr hg rfl
    have h2 := move_to (S := -S) (H := -H) m hg (by omega) hf (by omega)
    rcases move_cases (f + (7 * H - 12 * S)) m X Y with h | h | ⟨_, hr2, hu⟩
    · exact mback_one30 f _ m S H X Y w hR hr.1 hr.2.1 hr.2.2.1 hr.2.2.2 h1 h2 (Lib.hid h)
    · exact mback_one2 f _ m S H X Y w hR hr.1 hr.2.1 hr.2.2.1 hr.2.2.2 h1 h2 (Lib.hid h)
    · have h3 := move_to m hg hr2 hu rfl
      by_cases hs : -70 ≤ S + X ∧ S + X ≤ 70 ∧ -120 ≤ H + Y ∧ H + Y ≤ 120
      · exact mback_two0 f _ _ m S H X Y w hR hr.1 hr.2.1 hr.2.2.1 hr.2.2.2 hr2.1 hr2.2.1 hr2.2.2.1 hr2.2.2.2 h1 h2 h3 (move_to m hf hs hu (by omega))
      · have h4 : ∀ w, Calls Tryd.prog 27 #[ky f m, iv (S + X) (H + Y)] w fun e w' => e = .returned (kv 0 false 2) ∧ Below w.heap.size w w' := fun w => by
          have h := move_any f m (S + X) (H + Y) w
          unfold Key.mvF Key.mvM Key.mvE at h
          rw [Key.okF_true hf.1 hf.2, decide_eq_false hs] at h
          exact h
        exact mback_two2 f _ _ m S H X Y w hR hr.1 hr.2.1 hr.2.2.1 hr.2.2.2 hr2.1 hr2.2.1 hr2.2.2.1 hr2.2.2.2 h1 h2 h3 (Lib.hid h4)
end Go.Proofs.YtahcbgngdpjhkaaDoor
