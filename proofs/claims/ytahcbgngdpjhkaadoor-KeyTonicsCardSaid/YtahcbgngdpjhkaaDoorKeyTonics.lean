/-
  KeyTonics holds: the law's walk.
-/
import Derived.Test.YtahcbgngdpjhkaaDoorKeyL
import Derived.Test.YtahcbgngdpjhkaaDoorKeyRow
import Derived.Test.YtahcbgngdpjhkaaDoorKeyU
import Derived.Test.YtahcbgngdpjhkaaDoorKeyMoveBack
namespace Go.Proofs.YtahcbgngdpjhkaaDoor
open Go.RowKit

set_option maxRecDepth 100000 in
set_option maxHeartbeats 4000000 in
theorem tonics_no30 (f : Int) (m : Bool) (S H : Int) (w : World) (hR : Ready w) (H1 : Hid (∀ w, Calls Tryd.prog 27 #[ky f m, iv S H] w fun e w' => e = .returned (kv 0 false 30) ∧ Below w.heap.size w w')) :
    Calls Tryd.prog 16 #[ky f m, iv S H] w fun e w' => e = .returned (.bool true) ∧ Below w.heap.size w w' := by
  have hgP := guardP
  have hgK := guardK
  have heP := eql_pt
  have heK := eql_ky
  have hnP := neq_pt
  have hnK := neq_ky
  have hsP := eqP_self
  have hsK := eqK_self
  have hB0 : Below w.heap.size w w := Below.refl _ _
  go_enter Tryd.func16, Tryd.ntmps16
  go_wp2_with fail
  have hR' := hR.below ((hB0.alloc hB0.size (.cells #[.int .i64 f, .bool m] 23)).alloc (hB0.alloc hB0.size (.cells #[.int .i64 f, .bool m] 23)).size (.cells #[.int .i64 S, .int .i64 H] 37))
  refine (awake_any _ hR'.lett).mono ?_
  rintro e w1 ⟨rfl, hb1⟩
  clear hR'
  have hs1 : Below w.heap.size w w1 := Below.trans (by repeat (first | exact Below.refl _ _ | refine Below.alloc ?_ (by simp <;> omega) _)) (hb1.mono (by simp <;> omega))
  have c_k_0 : w1.cell? ⟨w.heap.size, 0, none⟩ = some (.int .i64 f) := (hb1.cell (by simp <;> omega)).trans (by go_simp)
  have c_k_1 : w1.cell? ⟨w.heap.size, 1, none⟩ = some (.bool m) := (hb1.cell (by simp <;> omega)).trans (by go_simp)
  have c_by_0 : w1.cell? ⟨w.heap.size + 1, 0, none⟩ = some (.int .i64 S) := (hb1.cell (by simp <;> omega)).trans (by go_simp)
  have c_by_1 : w1.cell? ⟨w.heap.size + 1, 1, none⟩ = some (.int .i64 H) := (hb1.cell (by simp <;> omega)).trans (by go_simp)
  have z_by := World.block_lt_of_cell? _ _ c_by_0
  have z_k := World.block_lt_of_cell? _ _ c_k_0
  have hB1 := below_two hB0 hs1
  clear hB0 hs1 hb1
  go_wp2_with fail
  have hR' := hR.below hB1
  refine (H1.out _).mono ?_
  rintro e w2 ⟨rfl, hb2⟩
  clear hR'
  have hs2 := hb2
  replace c_k_0 := cell_later hs2 c_k_0
  replace c_k_1 := cell_later hs2 c_k_1
  replace c_by_0 := cell_later hs2 c_by_0
  replace c_by_1 := cell_later hs2 c_by_1
  clear z_by
  have z_by := World.block_lt_of_cell? _ _ c_by_0
  clear z_k
  have z_k := World.block_lt_of_cell? _ _ c_k_0
  have hB2 := below_two hB1 hs2
  clear hB1 hs2
  go_wp2
  go_ret
  exact ⟨rfl, (hB2.alloc hB2.size (.cells #[.int .i64 0, .bool false] 23))⟩

set_option maxRecDepth 100000 in
set_option maxHeartbeats 4000000 in
theorem tonics_no2 (f : Int) (m : Bool) (S H : Int) (w : World) (hR : Ready w) (H1 : Hid (∀ w, Calls Tryd.prog 27 #[ky f m, iv S H] w fun e w' => e = .returned (kv 0 false 2) ∧ Below w.heap.size w w')) :
    Calls Tryd.prog 16 #[ky f m, iv S H] w fun e w' => e = .returned (.bool true) ∧ Below w.heap.size w w' := by
  have hgP := guardP
  have hgK := guardK
  have heP := eql_pt
  have heK := eql_ky
  have hnP := neq_pt
  have hnK := neq_ky
  have hsP := eqP_self
  have hsK := eqK_self
  have hB0 : Below w.heap.size w w := Below.refl _ _
  go_enter Tryd.func16, Tryd.ntmps16
  go_wp2_with fail
  have hR' := hR.below ((hB0.alloc hB0.size (.cells #[.int .i64 f, .bool m] 23)).alloc (hB0.alloc hB0.size (.cells #[.int .i64 f, .bool m] 23)).size (.cells #[.int .i64 S, .int .i64 H] 37))
  refine (awake_any _ hR'.lett).mono ?_
  rintro e w1 ⟨rfl, hb1⟩
  clear hR'
  have hs1 : Below w.heap.size w w1 := Below.trans (by repeat (first | exact Below.refl _ _ | refine Below.alloc ?_ (by simp <;> omega) _)) (hb1.mono (by simp <;> omega))
  have c_k_0 : w1.cell? ⟨w.heap.size, 0, none⟩ = some (.int .i64 f) := (hb1.cell (by simp <;> omega)).trans (by go_simp)
  have c_k_1 : w1.cell? ⟨w.heap.size, 1, none⟩ = some (.bool m) := (hb1.cell (by simp <;> omega)).trans (by go_simp)
  have c_by_0 : w1.cell? ⟨w.heap.size + 1, 0, none⟩ = some (.int .i64 S) := (hb1.cell (by simp <;> omega)).trans (by go_simp)
  have c_by_1 : w1.cell? ⟨w.heap.size + 1, 1, none⟩ = some (.int .i64 H) := (hb1.cell (by simp <;> omega)).trans (by go_simp)
  have z_by := World.block_lt_of_cell? _ _ c_by_0
  have z_k := World.block_lt_of_cell? _ _ c_k_0
  have hB1 := below_two hB0 hs1
  clear hB0 hs1 hb1
  go_wp2_with fail
  have hR' := hR.below hB1
  refine (H1.out _).mono ?_
  rintro e w2 ⟨rfl, hb2⟩
  clear hR'
  have hs2 := hb2
  replace c_k_0 := cell_later hs2 c_k_0
  replace c_k_1 := cell_later hs2 c_k_1
  replace c_by_0 := cell_later hs2 c_by_0
  replace c_by_1 := cell_later hs2 c_by_1
  clear z_by
  have z_by := World.block_lt_of_cell? _ _ c_by_0
  clear z_k
  have z_k := World.block_lt_of_cell? _ _ c_k_0
  have hB2 := below_two hB1 hs2
  clear hB1 hs2
  go_wp2
  go_ret
  exact ⟨rfl, (hB2.alloc hB2.size (.cells #[.int .i64 0, .bool false] 23))⟩

set_option maxRecDepth 100000 in
set_option maxHeartbeats 4000000 in
theorem tonics_fara (f : Int) (m : Bool) (S H g : Int) (w : World) (hR : Ready w) (H1 : Hid (∀ w, Calls Tryd.prog 27 #[ky f m, iv S H] w fun e w' => e = .returned (kv g m 0) ∧ Below w.heap.size w w')) (hs : S < -14) :
    Calls Tryd.prog 16 #[ky f m, iv S H] w fun e w' => e = .returned (.bool true) ∧ Below w.heap.size w w' := by
  have hgP := guardP
  have hgK := guardK
  have heP := eql_pt
  have heK := eql_ky
  have hnP := neq_pt
  have hnK := neq_ky
  have hsP := eqP_self
  have hsK := eqK_self
  have hB0 : Below w.heap.size w w := Below.refl _ _
  go_enter Tryd.func16, Tryd.ntmps16
  go_wp2_with fail
  have hR' := hR.below ((hB0.alloc hB0.size (.cells #[.int .i64 f, .bool m] 23)).alloc (hB0.alloc hB0.size (.cells #[.int .i64 f, .bool m] 23)).size (.cells #[.int .i64 S, .int .i64 H] 37))
  refine (awake_any _ hR'.lett).mono ?_
  rintro e w1 ⟨rfl, hb1⟩
  clear hR'
  have hs1 : Below w.heap.size w w1 := Below.trans (by repeat (first | exact Below.refl _ _ | refine Below.alloc ?_ (by simp <;> omega) _)) (hb1.mono (by simp <;> omega))
  have c_k_0 : w1.cell? ⟨w.heap.size, 0, none⟩ = some (.int .i64 f) := (hb1.cell (by simp <;> omega)).trans (by go_simp)
  have c_k_1 : w1.cell? ⟨w.heap.size, 1, none⟩ = some (.bool m) := (hb1.cell (by simp <;> omega)).trans (by go_simp)
  have c_by_0 : w1.cell? ⟨w.heap.size + 1, 0, none⟩ = some (.int .i64 S) := (hb1.cell (by simp <;> omega)).trans (by go_simp)
  have c_by_1 : w1.cell? ⟨w.heap.size + 1, 1, none⟩ = some (.int .i64 H) := (hb1.cell (by simp <;> omega)).trans (by go_simp)
  have z_by := World.block_lt_of_cell? _ _ c_by_0
  have z_k := World.block_lt_of_cell? _ _ c_k_0
  have hB1 := below_two hB0 hs1
  clear hB0 hs1 hb1
  go_wp2_with fail
  have hR' := hR.below hB1
  refine (H1.out _).mono ?_
  rintro e w2 ⟨rfl, hb2⟩
  clear hR'
  have hs2 := hb2
  replace c_k_0 := cell_later hs2 c_k_0
  replace c_k_1 := cell_later hs2 c_k_1
  replace c_by_0 := cell_later hs2 c_by_0
  replace c_by_1 := cell_later hs2 c_by_1
  clear z_by
  have z_by := World.block_lt_of_cell? _ _ c_by_0
  clear z_k
  have z_k := World.block_lt_of_cell? _ _ c_k_0
  have hB2 := below_two hB1 hs2
  clear hB1 hs2
  go_wp2
  go_ret
  exact ⟨rfl, (hB2.alloc hB2.size (.cells #[.int .i64 g, .bool m] 23))⟩

set_option maxRecDepth 100000 in
set_option maxHeartbeats 4000000 in
theorem tonics_farb (f : Int) (m : Bool) (S H g : Int) (w : World) (hR : Ready w) (H1 : Hid (∀ w, Calls Tryd.prog 27 #[ky f m, iv S H] w fun e w' => e = .returned (kv g m 0) ∧ Below w.heap.size w w')) (hs0 : ¬ S < -14) (hs : 14 < S) :
    Calls Tryd.prog 16 #[ky f m, iv S H] w fun e w' => e = .returned (.bool true) ∧ Below w.heap.size w w' := by
  have hgP := guardP
  have hgK := guardK
  have heP := eql_pt
  have heK := eql_ky
  have hnP := neq_pt
  have hnK := neq_ky
  have hsP := eqP_self
  have hsK := eqK_self
  have hB0 : Below w.heap.size w w := Below.refl _ _
  go_enter Tryd.func16, Tryd.ntmps16
  go_wp2_with fail
  have hR' := hR.below ((hB0.alloc hB0.size (.cells #[.int .i64 f, .bool m] 23)).alloc (hB0.alloc hB0.size (.cells #[.int .i64 f, .bool m] 23)).size (.cells #[.int .i64 S, .int .i64 H] 37))
  refine (awake_any _ hR'.lett).mono ?_
  rintro e w1 ⟨rfl, hb1⟩
  clear hR'
  have hs1 : Below w.heap.size w w1 := Below.trans (by repeat (first | exact Below.refl _ _ | refine Below.alloc ?_ (by simp <;> omega) _)) (hb1.mono (by simp <;> omega))
  have c_k_0 : w1.cell? ⟨w.heap.size, 0, none⟩ = some (.int .i64 f) := (hb1.cell (by simp <;> omega)).trans (by go_simp)
  have c_k_1 : w1.cell? ⟨w.heap.size, 1, none⟩ = some (.bool m) := (hb1.cell (by simp <;> omega)).trans (by go_simp)
  have c_by_0 : w1.cell? ⟨w.heap.size + 1, 0, none⟩ = some (.int .i64 S) := (hb1.cell (by simp <;> omega)).trans (by go_simp)
  have c_by_1 : w1.cell? ⟨w.heap.size + 1, 1, none⟩ = some (.int .i64 H) := (hb1.cell (by simp <;> omega)).trans (by go_simp)
  have z_by := World.block_lt_of_cell? _ _ c_by_0
  have z_k := World.block_lt_of_cell? _ _ c_k_0
  have hB1 := below_two hB0 hs1
  clear hB0 hs1 hb1
  go_wp2_with fail
  have hR' := hR.below hB1
  refine (H1.out _).mono ?_
  rintro e w2 ⟨rfl, hb2⟩
  clear hR'
  have hs2 := hb2
  replace c_k_0 := cell_later hs2 c_k_0
  replace c_k_1 := cell_later hs2 c_k_1
  replace c_by_0 := cell_later hs2 c_by_0
  replace c_by_1 := cell_later hs2 c_by_1
  clear z_by
  have z_by := World.block_lt_of_cell? _ _ c_by_0
  clear z_k
  have z_k := World.block_lt_of_cell? _ _ c_k_0
  have hB2 := below_two hB1 hs2
  clear hB1 hs2
  go_wp2
  go_ret
  exact ⟨rfl, (hB2.alloc hB2.size (.cells #[.int .i64 g, .bool m] 23))⟩

set_option maxRecDepth 100000 in
set_option maxHeartbeats 4000000 in
theorem tonics_none (f : Int) (m : Bool) (S H g : Int) (w : World) (hR : Ready w) (H1 : Hid (∀ w, Calls Tryd.prog 27 #[ky f m, iv S H] w fun e w' => e = .returned (kv g m 0) ∧ Below w.heap.size w w')) (hs0 : -14 ≤ S) (hs1 : S ≤ 14) (h0 : -7 ≤ f) (h7 : f ≤ 7) (g0 : -7 ≤ g) (g7 : g ≤ 7) (x y z t u v : Int) (HA : Hid (scP f m 0 = (x, y, z))) (HB : Hid (scP g m 0 = (t, u, v))) (HU : Hid (∀ w, Ready w → Calls Tryd.prog 34 #[pt x y z, iv S H] w fun e w' => e = .returned (pv 0 0 0 20) ∧ Below w.heap.size w w')) :
    Calls Tryd.prog 16 #[ky f m, iv S H] w fun e w' => e = .returned (.bool true) ∧ Below w.heap.size w w' := by
  have hgP := guardP
  have hgK := guardK
  have heP := eql_pt
  have heK := eql_ky
  have hnP := neq_pt
  have hnK := neq_ky
  have hsP := eqP_self
  have hsK := eqK_self
  have hB0 : Below w.heap.size w w := Below.refl _ _
  go_enter Tryd.func16, Tryd.ntmps16
  go_wp2_with fail
  have hR' := hR.below ((hB0.alloc hB0.size (.cells #[.int .i64 f, .bool m] 23)).alloc (hB0.alloc hB0.size (.cells #[.int .i64 f, .bool m] 23)).size (.cells #[.int .i64 S, .int .i64 H] 37))
  refine (awake_any _ hR'.lett).mono ?_
  rintro e w1 ⟨rfl, hb1⟩
  clear hR'
  have hs1 : Below w.heap.size w w1 := Below.trans (by repeat (first | exact Below.refl _ _ | refine Below.alloc ?_ (by simp <;> omega) _)) (hb1.mono (by simp <;> omega))
  have c_k_0 : w1.cell? ⟨w.heap.size, 0, none⟩ = some (.int .i64 f) := (hb1.cell (by simp <;> omega)).trans (by go_simp)
  have c_k_1 : w1.cell? ⟨w.heap.size, 1, none⟩ = some (.bool m) := (hb1.cell (by simp <;> omega)).trans (by go_simp)
  have c_by_0 : w1.cell? ⟨w.heap.size + 1, 0, none⟩ = some (.int .i64 S) := (hb1.cell (by simp <;> omega)).trans (by go_simp)
  have c_by_1 : w1.cell? ⟨w.heap.size + 1, 1, none⟩ = some (.int .i64 H) := (hb1.cell (by simp <;> omega)).trans (by go_simp)
  have z_by := World.block_lt_of_cell? _ _ c_by_0
  have z_k := World.block_lt_of_cell? _ _ c_k_0
  have hB1 := below_two hB0 hs1
  clear hB0 hs1 hb1
  go_wp2_with fail
  have hR' := hR.below hB1
  refine (H1.out _).mono ?_
  rintro e w2 ⟨rfl, hb2⟩
  clear hR'
  have hs2 := hb2
  replace c_k_0 := cell_later hs2 c_k_0
  replace c_k_1 := cell_later hs2 c_k_1
  replace c_by_0 := cell_later hs2 c_by_0
  replace c_by_1 := cell_later hs2 c_by_1
  clear z_by
  have z_by := World.block_lt_of_cell? _ _ c_by_0
  clear z_k
  have z_k := World.block_lt_of_cell? _ _ c_k_0
  have hB2 := below_two hB1 hs2
  clear hB1 hs2
  go_wp2_with fail
  have hR' := hR.below (hB2.alloc hB2.size (.cells #[.int .i64 g, .bool m] 23))
  refine (scale_yes f m _ h0 h7).mono ?_
  rintro e w3 ⟨⟨v1, rfl, ga, capa, rfl, hc⟩, hb3⟩
  clear hR'
  have hs3 : Below w2.heap.size w2 w3 := Below.trans (by repeat (first | exact Below.refl _ _ | refine Below.alloc ?_ (by simp <;> omega) _)) (hb3.mono (by simp <;> omega))
  replace c_k_0 := cell_later hs3 c_k_0
  replace c_k_1 := cell_later hs3 c_k_1
  replace c_by_0 := cell_later hs3 c_by_0
  replace c_by_1 := cell_later hs3 c_by_1
  have c_m_0 : w3.cell? ⟨w2.heap.size, 0, none⟩ = some (.int .i64 g) := (hb3.cell (by simp <;> omega)).trans (by go_simp)
  have c_m_1 : w3.cell? ⟨w2.heap.size, 1, none⟩ = some (.bool m) := (hb3.cell (by simp <;> omega)).trans (by go_simp)
  clear z_by
  have z_by := World.block_lt_of_cell? _ _ c_by_0
  clear z_k
  have z_k := World.block_lt_of_cell? _ _ c_k_0
  have z_m := World.block_lt_of_cell? _ _ c_m_0
  have hB3 := below_two hB2 hs3
  clear hB2 hs3 hb3
  have c_a_0 : w3.cell? ⟨ga, 0, none⟩ = some (.int .i64 x) := (hc 0 (by decide)).1.trans (by rw [HA.out])
  have c_a_1 : w3.cell? ⟨ga, 1, none⟩ = some (.int .i64 y) := (hc 0 (by decide)).2.1.trans (by rw [HA.out])
  have c_a_2 : w3.cell? ⟨ga, 2, none⟩ = some (.int .i64 z) := (hc 0 (by decide)).2.2.trans (by rw [HA.out])
  clear hc
  go_wp2_with fail
  have hR' := hR.below hB3
  refine (scale_yes g m _ g0 g7).mono ?_
  rintro e w4 ⟨⟨v2, rfl, gb, capb, rfl, hc⟩, hb4⟩
  clear hR'
  have hs4 := hb4
  clear c_k_0
  clear c_k_1
  clear c_m_0
  clear c_m_1
  replace c_by_0 := cell_later hs4 c_by_0
  replace c_by_1 := cell_later hs4 c_by_1
  replace c_a_0 := cell_later hs4 c_a_0
  replace c_a_1 := cell_later hs4 c_a_1
  replace c_a_2 := cell_later hs4 c_a_2
  have z_a := World.block_lt_of_cell? _ _ c_a_0
  clear z_by
  have z_by := World.block_lt_of_cell? _ _ c_by_0
  clear z_k
  clear z_m
  have hB4 := below_two hB3 hs4
  clear hB3 hs4
  have c_b_0 : w4.cell? ⟨gb, 0, none⟩ = some (.int .i64 t) := (hc 0 (by decide)).1.trans (by rw [HB.out])
  have c_b_1 : w4.cell? ⟨gb, 1, none⟩ = some (.int .i64 u) := (hc 0 (by decide)).2.1.trans (by rw [HB.out])
  clear hc
  have z_b := World.block_lt_of_cell? _ _ c_b_0
  go_wp2_with fail
  go_region_with (go_at_call 34; first | (refine (HU.out _ (hR.below hB4.drew)).mono ?_; rintro e u5 ⟨rfl, hq⟩; have n_c_by_0 := cell_later hq (cell_drew c_by_0); have n_c_by_1 := cell_later hq (cell_drew c_by_1); have n_c_a_0 := cell_later hq (cell_drew c_a_0); have n_c_a_1 := cell_later hq (cell_drew c_a_1); have n_c_a_2 := cell_later hq (cell_drew c_a_2); have n_c_b_0 := cell_later hq (cell_drew c_b_0); have n_c_b_1 := cell_later hq (cell_drew c_b_1); have hB5 := below_two hB4.drew hq; clear hq) | (refine (HU.out _ (hR.below (alloc_below hB4).drew)).mono ?_; rintro e u5 ⟨rfl, hq⟩; have n_c_by_0 := cell_later hq (cell_drew (alloc_cell c_by_0)); have n_c_by_1 := cell_later hq (cell_drew (alloc_cell c_by_1)); have n_c_a_0 := cell_later hq (cell_drew (alloc_cell c_a_0)); have n_c_a_1 := cell_later hq (cell_drew (alloc_cell c_a_1)); have n_c_a_2 := cell_later hq (cell_drew (alloc_cell c_a_2)); have n_c_b_0 := cell_later hq (cell_drew (alloc_cell c_b_0)); have n_c_b_1 := cell_later hq (cell_drew (alloc_cell c_b_1)); have hB5 := below_two (alloc_below hB4).drew hq; have r_0 : u5.cell? ⟨w4.heap.size, 0, none⟩ = some (.int .i64 0) := cell_later hq (cell_drew (by go_simp)); have q_0 : u5.frozen? ⟨w4.heap.size, 0, none⟩ = false := frozen_later hq (v := .int .i64 0) (cell_drew (by go_simp)) (frozen_drew (by go_simp)); have r_1 : u5.cell? ⟨w4.heap.size, 1, none⟩ = some (.int .i64 0) := cell_later hq (cell_drew (by go_simp)); have q_1 : u5.frozen? ⟨w4.heap.size, 1, none⟩ = false := frozen_later hq (v := .int .i64 0) (cell_drew (by go_simp)) (frozen_drew (by go_simp)); have r_2 : u5.cell? ⟨w4.heap.size, 2, none⟩ = some (.int .i64 0) := cell_later hq (cell_drew (by go_simp)); have q_2 : u5.frozen? ⟨w4.heap.size, 2, none⟩ = false := frozen_later hq (v := .int .i64 0) (cell_drew (by go_simp)) (frozen_drew (by go_simp)); clear hq))
  all_goals (first | (go_simp; go_wp2_with fail; have x_p_0 : (u5.alloc (.cells #[.int .i64 0, .int .i64 0, .int .i64 0] 42)).cell? ⟨u5.heap.size, 0, none⟩ = some (.int .i64 0) := (by go_simp); have x_p_1 : (u5.alloc (.cells #[.int .i64 0, .int .i64 0, .int .i64 0] 42)).cell? ⟨u5.heap.size, 1, none⟩ = some (.int .i64 0) := (by go_simp); have x_b_0 : (u5.alloc (.cells #[.int .i64 0, .int .i64 0, .int .i64 0] 42)).cell? ⟨gb, 0, none⟩ = some (.int .i64 t) := alloc_cell n_c_b_0; have x_b_1 : (u5.alloc (.cells #[.int .i64 0, .int .i64 0, .int .i64 0] 42)).cell? ⟨gb, 1, none⟩ = some (.int .i64 u) := alloc_cell n_c_b_1; have hB6 : Below w.heap.size w (u5.alloc (.cells #[.int .i64 0, .int .i64 0, .int .i64 0] 42)) := alloc_below hB5; generalize (u5.alloc (.cells #[.int .i64 0, .int .i64 0, .int .i64 0] 42)) = u6 at *; have g_p_0 := fun d os => cell_regrown x_p_0 d os; have g_p_1 := fun d os => cell_regrown x_p_1 d os; have g_b_0 := fun d os => cell_regrown x_b_0 d os; have g_b_1 := fun d os => cell_regrown x_b_1 d os; refine wp_region_quiet_below (by kernel_rfl) (by kernel_rfl) ?_; (repeat (go_big_quiet_step (fail))); refine wpQuiet_nil ?_; intro _ hw'; obtain ⟨⟨dq, osq⟩, hw''⟩ := hw'; subst hw''; go_wp2; go_ret; exact ⟨rfl, below_two hB6 (below_regrown u6 dq osq)⟩) | (go_simp; go_wp2_with fail; have x_p_0 : (((u5.setCell ⟨w4.heap.size, 0, none⟩ (.int .i64 0)).setCell ⟨w4.heap.size, 1, none⟩ (.int .i64 0)).setCell ⟨w4.heap.size, 2, none⟩ (.int .i64 0)).cell? ⟨w4.heap.size, 0, none⟩ = some (.int .i64 0) := (put3_of r_0 r_1 r_2).1; have x_p_1 : (((u5.setCell ⟨w4.heap.size, 0, none⟩ (.int .i64 0)).setCell ⟨w4.heap.size, 1, none⟩ (.int .i64 0)).setCell ⟨w4.heap.size, 2, none⟩ (.int .i64 0)).cell? ⟨w4.heap.size, 1, none⟩ = some (.int .i64 0) := (put3_of r_0 r_1 r_2).2.1; have x_b_0 : (((u5.setCell ⟨w4.heap.size, 0, none⟩ (.int .i64 0)).setCell ⟨w4.heap.size, 1, none⟩ (.int .i64 0)).setCell ⟨w4.heap.size, 2, none⟩ (.int .i64 0)).cell? ⟨gb, 0, none⟩ = some (.int .i64 t) := set_far (by omega) (set_far (by omega) (set_far (by omega) n_c_b_0)); have x_b_1 : (((u5.setCell ⟨w4.heap.size, 0, none⟩ (.int .i64 0)).setCell ⟨w4.heap.size, 1, none⟩ (.int .i64 0)).setCell ⟨w4.heap.size, 2, none⟩ (.int .i64 0)).cell? ⟨gb, 1, none⟩ = some (.int .i64 u) := set_far (by omega) (set_far (by omega) (set_far (by omega) n_c_b_1)); have hB6 : Below w.heap.size w (((u5.setCell ⟨w4.heap.size, 0, none⟩ (.int .i64 0)).setCell ⟨w4.heap.size, 1, none⟩ (.int .i64 0)).setCell ⟨w4.heap.size, 2, none⟩ (.int .i64 0)) := put3_below hB5 (by omega); generalize (((u5.setCell ⟨w4.heap.size, 0, none⟩ (.int .i64 0)).setCell ⟨w4.heap.size, 1, none⟩ (.int .i64 0)).setCell ⟨w4.heap.size, 2, none⟩ (.int .i64 0)) = u6 at *; have g_p_0 := fun d os => cell_regrown x_p_0 d os; have g_p_1 := fun d os => cell_regrown x_p_1 d os; have g_b_0 := fun d os => cell_regrown x_b_0 d os; have g_b_1 := fun d os => cell_regrown x_b_1 d os; refine wp_region_quiet_below (by kernel_rfl) (by kernel_rfl) ?_; (repeat (go_big_quiet_step (fail))); refine wpQuiet_nil ?_; intro _ hw'; obtain ⟨⟨dq, osq⟩, hw''⟩ := hw'; subst hw''; go_wp2; go_ret; exact ⟨rfl, below_two hB6 (below_regrown u6 dq osq)⟩))

set_option maxRecDepth 100000 in
set_option maxHeartbeats 4000000 in
theorem tonics_up (f : Int) (m : Bool) (S H g : Int) (w : World) (hR : Ready w) (H1 : Hid (∀ w, Calls Tryd.prog 27 #[ky f m, iv S H] w fun e w' => e = .returned (kv g m 0) ∧ Below w.heap.size w w')) (hs0 : -14 ≤ S) (hs1 : S ≤ 14) (h0 : -7 ≤ f) (h7 : f ≤ 7) (g0 : -7 ≤ g) (g7 : g ≤ 7) (x y z t u v c : Int) (HA : Hid (scP f m 0 = (x, y, z))) (HB : Hid (scP g m 0 = (t, u, v))) (HU : Hid (∀ w, Ready w → Calls Tryd.prog 34 #[pt x y z, iv S H] w fun e w' => e = .returned (pv t u c 0) ∧ Below w.heap.size w w')) :
    Calls Tryd.prog 16 #[ky f m, iv S H] w fun e w' => e = .returned (.bool true) ∧ Below w.heap.size w w' := by
  have hgP := guardP
  have hgK := guardK
  have heP := eql_pt
  have heK := eql_ky
  have hnP := neq_pt
  have hnK := neq_ky
  have hsP := eqP_self
  have hsK := eqK_self
  have hB0 : Below w.heap.size w w := Below.refl _ _
  go_enter Tryd.func16, Tryd.ntmps16
  go_wp2_with fail
  have hR' := hR.below ((hB0.alloc hB0.size (.cells #[.int .i64 f, .bool m] 23)).alloc (hB0.alloc hB0.size (.cells #[.int .i64 f, .bool m] 23)).size (.cells #[.int .i64 S, .int .i64 H] 37))
  refine (awake_any _ hR'.lett).mono ?_
  rintro e w1 ⟨rfl, hb1⟩
  clear hR'
  have hs1 : Below w.heap.size w w1 := Below.trans (by repeat (first | exact Below.refl _ _ | refine Below.alloc ?_ (by simp <;> omega) _)) (hb1.mono (by simp <;> omega))
  have c_k_0 : w1.cell? ⟨w.heap.size, 0, none⟩ = some (.int .i64 f) := (hb1.cell (by simp <;> omega)).trans (by go_simp)
  have c_k_1 : w1.cell? ⟨w.heap.size, 1, none⟩ = some (.bool m) := (hb1.cell (by simp <;> omega)).trans (by go_simp)
  have c_by_0 : w1.cell? ⟨w.heap.size + 1, 0, none⟩ = some (.int .i64 S) := (hb1.cell (by simp <;> omega)).trans (by go_simp)
  have c_by_1 : w1.cell? ⟨w.heap.size + 1, 1, none⟩ = some (.int .i64 H) := (hb1.cell (by simp <;> omega)).trans (by go_simp)
  have z_by := World.block_lt_of_cell? _ _ c_by_0
  have z_k := World.block_lt_of_cell? _ _ c_k_0
  have hB1 := below_two hB0 hs1
  clear hB0 hs1 hb1
  go_wp2_with fail
  have hR' := hR.below hB1
  refine (H1.out _).mono ?_
  rintro e w2 ⟨rfl, hb2⟩
  clear hR'
  have hs2 := hb2
  replace c_k_0 := cell_later hs2 c_k_0
  replace c_k_1 := cell_later hs2 c_k_1
  replace c_by_0 := cell_later hs2 c_by_0
  replace c_by_1 := cell_later hs2 c_by_1
  clear z_by
  have z_by := World.block_lt_of_cell? _ _ c_by_0
  clear z_k
  have z_k := World.block_lt_of_cell? _ _ c_k_0
  have hB2 := below_two hB1 hs2
  clear hB1 hs2
  go_wp2_with fail
  have hR' := hR.below (hB2.alloc hB2.size (.cells #[.int .i64 g, .bool m] 23))
  refine (scale_yes f m _ h0 h7).mono ?_
  rintro e w3 ⟨⟨v1, rfl, ga, capa, rfl, hc⟩, hb3⟩
  clear hR'
  have hs3 : Below w2.heap.size w2 w3 := Below.trans (by repeat (first | exact Below.refl _ _ | refine Below.alloc ?_ (by simp <;> omega) _)) (hb3.mono (by simp <;> omega))
  replace c_k_0 := cell_later hs3 c_k_0
  replace c_k_1 := cell_later hs3 c_k_1
  replace c_by_0 := cell_later hs3 c_by_0
  replace c_by_1 := cell_later hs3 c_by_1
  have c_m_0 : w3.cell? ⟨w2.heap.size, 0, none⟩ = some (.int .i64 g) := (hb3.cell (by simp <;> omega)).trans (by go_simp)
  have c_m_1 : w3.cell? ⟨w2.heap.size, 1, none⟩ = some (.bool m) := (hb3.cell (by simp <;> omega)).trans (by go_simp)
  clear z_by
  have z_by := World.block_lt_of_cell? _ _ c_by_0
  clear z_k
  have z_k := World.block_lt_of_cell? _ _ c_k_0
  have z_m := World.block_lt_of_cell? _ _ c_m_0
  have hB3 := below_two hB2 hs3
  clear hB2 hs3 hb3
  have c_a_0 : w3.cell? ⟨ga, 0, none⟩ = some (.int .i64 x) := (hc 0 (by decide)).1.trans (by rw [HA.out])
  have c_a_1 : w3.cell? ⟨ga, 1, none⟩ = some (.int .i64 y) := (hc 0 (by decide)).2.1.trans (by rw [HA.out])
  have c_a_2 : w3.cell? ⟨ga, 2, none⟩ = some (.int .i64 z) := (hc 0 (by decide)).2.2.trans (by rw [HA.out])
  clear hc
  go_wp2_with fail
  have hR' := hR.below hB3
  refine (scale_yes g m _ g0 g7).mono ?_
  rintro e w4 ⟨⟨v2, rfl, gb, capb, rfl, hc⟩, hb4⟩
  clear hR'
  have hs4 := hb4
  clear c_k_0
  clear c_k_1
  clear c_m_0
  clear c_m_1
  replace c_by_0 := cell_later hs4 c_by_0
  replace c_by_1 := cell_later hs4 c_by_1
  replace c_a_0 := cell_later hs4 c_a_0
  replace c_a_1 := cell_later hs4 c_a_1
  replace c_a_2 := cell_later hs4 c_a_2
  have z_a := World.block_lt_of_cell? _ _ c_a_0
  clear z_by
  have z_by := World.block_lt_of_cell? _ _ c_by_0
  clear z_k
  clear z_m
  have hB4 := below_two hB3 hs4
  clear hB3 hs4
  have c_b_0 : w4.cell? ⟨gb, 0, none⟩ = some (.int .i64 t) := (hc 0 (by decide)).1.trans (by rw [HB.out])
  have c_b_1 : w4.cell? ⟨gb, 1, none⟩ = some (.int .i64 u) := (hc 0 (by decide)).2.1.trans (by rw [HB.out])
  clear hc
  have z_b := World.block_lt_of_cell? _ _ c_b_0
  go_wp2_with fail
  go_region_with (go_at_call 34; first | (refine (HU.out _ (hR.below hB4.drew)).mono ?_; rintro e u5 ⟨rfl, hq⟩; have n_c_by_0 := cell_later hq (cell_drew c_by_0); have n_c_by_1 := cell_later hq (cell_drew c_by_1); have n_c_a_0 := cell_later hq (cell_drew c_a_0); have n_c_a_1 := cell_later hq (cell_drew c_a_1); have n_c_a_2 := cell_later hq (cell_drew c_a_2); have n_c_b_0 := cell_later hq (cell_drew c_b_0); have n_c_b_1 := cell_later hq (cell_drew c_b_1); have hB5 := below_two hB4.drew hq; clear hq) | (refine (HU.out _ (hR.below (alloc_below hB4).drew)).mono ?_; rintro e u5 ⟨rfl, hq⟩; have n_c_by_0 := cell_later hq (cell_drew (alloc_cell c_by_0)); have n_c_by_1 := cell_later hq (cell_drew (alloc_cell c_by_1)); have n_c_a_0 := cell_later hq (cell_drew (alloc_cell c_a_0)); have n_c_a_1 := cell_later hq (cell_drew (alloc_cell c_a_1)); have n_c_a_2 := cell_later hq (cell_drew (alloc_cell c_a_2)); have n_c_b_0 := cell_later hq (cell_drew (alloc_cell c_b_0)); have n_c_b_1 := cell_later hq (cell_drew (alloc_cell c_b_1)); have hB5 := below_two (alloc_below hB4).drew hq; have r_0 : u5.cell? ⟨w4.heap.size, 0, none⟩ = some (.int .i64 0) := cell_later hq (cell_drew (by go_simp)); have q_0 : u5.frozen? ⟨w4.heap.size, 0, none⟩ = false := frozen_later hq (v := .int .i64 0) (cell_drew (by go_simp)) (frozen_drew (by go_simp)); have r_1 : u5.cell? ⟨w4.heap.size, 1, none⟩ = some (.int .i64 0) := cell_later hq (cell_drew (by go_simp)); have q_1 : u5.frozen? ⟨w4.heap.size, 1, none⟩ = false := frozen_later hq (v := .int .i64 0) (cell_drew (by go_simp)) (frozen_drew (by go_simp)); have r_2 : u5.cell? ⟨w4.heap.size, 2, none⟩ = some (.int .i64 0) := cell_later hq (cell_drew (by go_simp)); have q_2 : u5.frozen? ⟨w4.heap.size, 2, none⟩ = false := frozen_later hq (v := .int .i64 0) (cell_drew (by go_simp)) (frozen_drew (by go_simp)); clear hq))
  all_goals (first | (go_simp; go_wp2_with fail; have x_p_0 : (u5.alloc (.cells #[.int .i64 t, .int .i64 u, .int .i64 c] 42)).cell? ⟨u5.heap.size, 0, none⟩ = some (.int .i64 t) := (by go_simp); have x_p_1 : (u5.alloc (.cells #[.int .i64 t, .int .i64 u, .int .i64 c] 42)).cell? ⟨u5.heap.size, 1, none⟩ = some (.int .i64 u) := (by go_simp); have x_b_0 : (u5.alloc (.cells #[.int .i64 t, .int .i64 u, .int .i64 c] 42)).cell? ⟨gb, 0, none⟩ = some (.int .i64 t) := alloc_cell n_c_b_0; have x_b_1 : (u5.alloc (.cells #[.int .i64 t, .int .i64 u, .int .i64 c] 42)).cell? ⟨gb, 1, none⟩ = some (.int .i64 u) := alloc_cell n_c_b_1; have hB6 : Below w.heap.size w (u5.alloc (.cells #[.int .i64 t, .int .i64 u, .int .i64 c] 42)) := alloc_below hB5; generalize (u5.alloc (.cells #[.int .i64 t, .int .i64 u, .int .i64 c] 42)) = u6 at *; have g_p_0 := fun d os => cell_regrown x_p_0 d os; have g_p_1 := fun d os => cell_regrown x_p_1 d os; have g_b_0 := fun d os => cell_regrown x_b_0 d os; have g_b_1 := fun d os => cell_regrown x_b_1 d os; refine wp_region_quiet_below (by kernel_rfl) (by kernel_rfl) ?_; (repeat (go_big_quiet_step (fail))); refine wpQuiet_nil ?_; intro _ hw'; obtain ⟨⟨dq, osq⟩, hw''⟩ := hw'; subst hw''; go_wp2; go_ret; exact ⟨rfl, below_two hB6 (below_regrown u6 dq osq)⟩) | (go_simp; go_wp2_with fail; have x_p_0 : (((u5.setCell ⟨w4.heap.size, 0, none⟩ (.int .i64 t)).setCell ⟨w4.heap.size, 1, none⟩ (.int .i64 u)).setCell ⟨w4.heap.size, 2, none⟩ (.int .i64 c)).cell? ⟨w4.heap.size, 0, none⟩ = some (.int .i64 t) := (put3_of r_0 r_1 r_2).1; have x_p_1 : (((u5.setCell ⟨w4.heap.size, 0, none⟩ (.int .i64 t)).setCell ⟨w4.heap.size, 1, none⟩ (.int .i64 u)).setCell ⟨w4.heap.size, 2, none⟩ (.int .i64 c)).cell? ⟨w4.heap.size, 1, none⟩ = some (.int .i64 u) := (put3_of r_0 r_1 r_2).2.1; have x_b_0 : (((u5.setCell ⟨w4.heap.size, 0, none⟩ (.int .i64 t)).setCell ⟨w4.heap.size, 1, none⟩ (.int .i64 u)).setCell ⟨w4.heap.size, 2, none⟩ (.int .i64 c)).cell? ⟨gb, 0, none⟩ = some (.int .i64 t) := set_far (by omega) (set_far (by omega) (set_far (by omega) n_c_b_0)); have x_b_1 : (((u5.setCell ⟨w4.heap.size, 0, none⟩ (.int .i64 t)).setCell ⟨w4.heap.size, 1, none⟩ (.int .i64 u)).setCell ⟨w4.heap.size, 2, none⟩ (.int .i64 c)).cell? ⟨gb, 1, none⟩ = some (.int .i64 u) := set_far (by omega) (set_far (by omega) (set_far (by omega) n_c_b_1)); have hB6 : Below w.heap.size w (((u5.setCell ⟨w4.heap.size, 0, none⟩ (.int .i64 t)).setCell ⟨w4.heap.size, 1, none⟩ (.int .i64 u)).setCell ⟨w4.heap.size, 2, none⟩ (.int .i64 c)) := put3_below hB5 (by omega); generalize (((u5.setCell ⟨w4.heap.size, 0, none⟩ (.int .i64 t)).setCell ⟨w4.heap.size, 1, none⟩ (.int .i64 u)).setCell ⟨w4.heap.size, 2, none⟩ (.int .i64 c)) = u6 at *; have g_p_0 := fun d os => cell_regrown x_p_0 d os; have g_p_1 := fun d os => cell_regrown x_p_1 d os; have g_b_0 := fun d os => cell_regrown x_b_0 d os; have g_b_1 := fun d os => cell_regrown x_b_1 d os; refine wp_region_quiet_below (by kernel_rfl) (by kernel_rfl) ?_; (repeat (go_big_quiet_step (fail))); refine wpQuiet_nil ?_; intro _ hw'; obtain ⟨⟨dq, osq⟩, hw''⟩ := hw'; subst hw''; go_wp2; go_ret; exact ⟨rfl, below_two hB6 (below_regrown u6 dq osq)⟩))

theorem keyTonics_calls (f : Int) (m : Bool) (S H : Int) (_ : Pit.I64 f) (_ : Pit.I64 S) (_ : Pit.I64 H) (w : World) (hR : Ready w) : LawHolds 16 #[ky f m, iv S H] w := by
  rcases move_cases f m S H with h | h | ⟨hf, hr, hg⟩
  · exact tonics_no30 f m S H w hR (Lib.hid h)
  · exact tonics_no2 f m S H w hR (Lib.hid h)
  · have h1 := move_to m hf hr hg rfl
    by_cases a1 : S < -14
    · exact tonics_fara f m S H _ w hR h1 a1
    · by_cases a2 : 14 < S
      · exact tonics_farb f m S H _ w hR h1 a1 a2
      · have hu := fun w hR => up_any (Key.scS f m (0 : Nat)) (Key.scA f m (0 : Nat)) (Key.scO f m (0 : Nat)) S H w hR
        cases hp : Pit.up (Key.scS f m (0 : Nat)) (Key.scA f m (0 : Nat)) (Key.scO f m (0 : Nat)) S H with
        | none =>
          rw [hp] at hu
          exact tonics_none f m S H _ w hR h1 (by omega) (by omega) hf.1 hf.2 hg.1 hg.2 _ _ _ _ _ _ (Lib.hid rfl) (Lib.hid rfl) (Lib.hid hu)
        | some x =>
          obtain ⟨t, u, c⟩ := x
          obtain ⟨e1, e2⟩ := Key.ton_ok m hf.1 hf.2 (by omega) (by omega) hg.1 hg.2 hp
          rw [hp, e1, e2] at hu
          exact tonics_up f m S H _ w hR h1 (by omega) (by omega) hf.1 hf.2 hg.1 hg.2 _ _ _ _ _ _ c (Lib.hid rfl) (Lib.hid rfl) (Lib.hid hu)
end Go.Proofs.YtahcbgngdpjhkaaDoor
