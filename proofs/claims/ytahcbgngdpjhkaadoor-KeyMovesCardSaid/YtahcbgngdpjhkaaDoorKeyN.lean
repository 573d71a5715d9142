/-
  The contract of the reference's Move.
-/
import Derived.Test.YtahcbgngdpjhkaaDoorKeyM
import Derived.Test.YtahcbgngdpjhkaaDoorKeyD
namespace Go.Proofs.YtahcbgngdpjhkaaDoor
open Go.RowKit

set_option maxRecDepth 100000 in
set_option maxHeartbeats 4000000 in
theorem refMove_no1 (f : Int) (m : Bool) (S H : Int) (w : World) (h : Key.okF f = false) :
    Calls Tryd.prog 28 #[ky f m, iv S H] w fun e w' => e = .returned (kv 0 false 30) ∧ Below w.heap.size w w' := by
  have hB0 : Below w.heap.size w w := Below.refl _ _
  go_enter Tryd.func28, Tryd.ntmps28
  go_wp2_with fail
  refine (krefRight_no m _ h).mono ?_
  rintro e w1 ⟨rfl, hb1⟩
  have hs1 : Below w.heap.size w w1 := Below.trans (by repeat (first | exact Below.refl _ _ | refine Below.alloc ?_ (by simp <;> omega) _)) (hb1.mono (by simp <;> omega))
  have c_k_0 : w1.cell? ⟨w.heap.size, 0, none⟩ = some (.int .i64 f) := (hb1.cell (by simp <;> omega)).trans (by go_simp)
  have c_k_1 : w1.cell? ⟨w.heap.size, 1, none⟩ = some (.bool m) := (hb1.cell (by simp <;> omega)).trans (by go_simp)
  have c_b_0 : w1.cell? ⟨w.heap.size + 1, 0, none⟩ = some (.int .i64 S) := (hb1.cell (by simp <;> omega)).trans (by go_simp)
  have c_b_1 : w1.cell? ⟨w.heap.size + 1, 1, none⟩ = some (.int .i64 H) := (hb1.cell (by simp <;> omega)).trans (by go_simp)
  have c_r_0 : w1.cell? ⟨w.heap.size + 1 + 1, 0, none⟩ = some (.int .i64 0) := (hb1.cell (by simp <;> omega)).trans (by go_simp)
  have f_r_0 : w1.frozen? ⟨w.heap.size + 1 + 1, 0, none⟩ = false := (hb1.frozen (by simp <;> omega)).trans (by go_simp)
  have c_r_1 : w1.cell? ⟨w.heap.size + 1 + 1, 1, none⟩ = some (.bool false) := (hb1.cell (by simp <;> omega)).trans (by go_simp)
  have f_r_1 : w1.frozen? ⟨w.heap.size + 1 + 1, 1, none⟩ = false := (hb1.frozen (by simp <;> omega)).trans (by go_simp)
  have z_b := World.block_lt_of_cell? _ _ c_b_0
  have z_k := World.block_lt_of_cell? _ _ c_k_0
  have z_r := World.block_lt_of_cell? _ _ c_r_0
  have hB1 := below_two hB0 hs1
  clear hB0 hs1 hb1
  obtain ⟨m0, m1⟩ := put2_of (x := .int .i64 0) (y := .bool false) c_r_0 c_r_1
  go_wp2
  exact bodyPost_ret (v := .tuple #[.agg #[.int .i64 0, .bool false], .int .i64 30]) (by simp [results, Tryd.results28, go_sem, m0, m1]) rfl ⟨rfl, put2_below hB1 (by omega)⟩

set_option maxRecDepth 100000 in
set_option maxHeartbeats 4000000 in
theorem refMove_no2a (f : Int) (m : Bool) (S H : Int) (w : World) (h : Key.okF f = true) (hs : S < -70) :
    Calls Tryd.prog 28 #[ky f m, iv S H] w fun e w' => e = .returned (kv 0 false 2) ∧ Below w.heap.size w w' := by
  have hB0 : Below w.heap.size w w := Below.refl _ _
  go_enter Tryd.func28, Tryd.ntmps28
  go_wp2_with fail
  refine (krefRight_yes m _ h).mono ?_
  rintro e w1 ⟨rfl, hb1⟩
  have hs1 : Below w.heap.size w w1 := Below.trans (by repeat (first | exact Below.refl _ _ | refine Below.alloc ?_ (by simp <;> omega) _)) (hb1.mono (by simp <;> omega))
  have c_k_0 : w1.cell? ⟨w.heap.size, 0, none⟩ = some (.int .i64 f) := (hb1.cell (by simp <;> omega)).trans (by go_simp)
  have c_k_1 : w1.cell? ⟨w.heap.size, 1, none⟩ = some (.bool m) := (hb1.cell (by simp <;> omega)).trans (by go_simp)
  have c_b_0 : w1.cell? ⟨w.heap.size + 1, 0, none⟩ = some (.int .i64 S) := (hb1.cell (by simp <;> omega)).trans (by go_simp)
  have c_b_1 : w1.cell? ⟨w.heap.size + 1, 1, none⟩ = some (.int .i64 H) := (hb1.cell (by simp <;> omega)).trans (by go_simp)
  have c_r_0 : w1.cell? ⟨w.heap.size + 1 + 1, 0, none⟩ = some (.int .i64 0) := (hb1.cell (by simp <;> omega)).trans (by go_simp)
  have f_r_0 : w1.frozen? ⟨w.heap.size + 1 + 1, 0, none⟩ = false := (hb1.frozen (by simp <;> omega)).trans (by go_simp)
  have c_r_1 : w1.cell? ⟨w.heap.size + 1 + 1, 1, none⟩ = some (.bool false) := (hb1.cell (by simp <;> omega)).trans (by go_simp)
  have f_r_1 : w1.frozen? ⟨w.heap.size + 1 + 1, 1, none⟩ = false := (hb1.frozen (by simp <;> omega)).trans (by go_simp)
  have z_b := World.block_lt_of_cell? _ _ c_b_0
  have z_k := World.block_lt_of_cell? _ _ c_k_0
  have z_r := World.block_lt_of_cell? _ _ c_r_0
  have hB1 := below_two hB0 hs1
  clear hB0 hs1 hb1
  obtain ⟨m0, m1⟩ := put2_of (x := .int .i64 0) (y := .bool false) c_r_0 c_r_1
  go_wp2
  exact bodyPost_ret (v := .tuple #[.agg #[.int .i64 0, .bool false], .int .i64 2]) (by simp [results, Tryd.results28, go_sem, m0, m1]) rfl ⟨rfl, put2_below hB1 (by omega)⟩

set_option maxRecDepth 100000 in
set_option maxHeartbeats 4000000 in
theorem refMove_no2b (f : Int) (m : Bool) (S H : Int) (w : World) (h : Key.okF f = true) (s0 : ¬ S < -70) (hs : 70 < S) :
    Calls Tryd.prog 28 #[ky f m, iv S H] w fun e w' => e = .returned (kv 0 false 2) ∧ Below w.heap.size w w' := by
  have hB0 : Below w.heap.size w w := Below.refl _ _
  go_enter Tryd.func28, Tryd.ntmps28
  go_wp2_with fail
  refine (krefRight_yes m _ h).mono ?_
  rintro e w1 ⟨rfl, hb1⟩
  have hs1 : Below w.heap.size w w1 := Below.trans (by repeat (first | exact Below.refl _ _ | refine Below.alloc ?_ (by simp <;> omega) _)) (hb1.mono (by simp <;> omega))
  have c_k_0 : w1.cell? ⟨w.heap.size, 0, none⟩ = some (.int .i64 f) := (hb1.cell (by simp <;> omega)).trans (by go_simp)
  have c_k_1 : w1.cell? ⟨w.heap.size, 1, none⟩ = some (.bool m) := (hb1.cell (by simp <;> omega)).trans (by go_simp)
  have c_b_0 : w1.cell? ⟨w.heap.size + 1, 0, none⟩ = some (.int .i64 S) := (hb1.cell (by simp <;> omega)).trans (by go_simp)
  have c_b_1 : w1.cell? ⟨w.heap.size + 1, 1, none⟩ = some (.int .i64 H) := (hb1.cell (by simp <;> omega)).trans (by go_simp)
  have c_r_0 : w1.cell? ⟨w.heap.size + 1 + 1, 0, none⟩ = some (.int .i64 0) := (hb1.cell (by simp <;> omega)).trans (by go_simp)
  have f_r_0 : w1.frozen? ⟨w.heap.size + 1 + 1, 0, none⟩ = false := (hb1.frozen (by simp <;> omega)).trans (by go_simp)
  have c_r_1 : w1.cell? ⟨w.heap.size + 1 + 1, 1, none⟩ = some (.bool false) := (hb1.cell (by simp <;> omega)).trans (by go_simp)
  have f_r_1 : w1.frozen? ⟨w.heap.size + 1 + 1, 1, none⟩ = false := (hb1.frozen (by simp <;> omega)).trans (by go_simp)
  have z_b := World.block_lt_of_cell? _ _ c_b_0
  have z_k := World.block_lt_of_cell? _ _ c_k_0
  have z_r := World.block_lt_of_cell? _ _ c_r_0
  have hB1 := below_two hB0 hs1
  clear hB0 hs1 hb1
  obtain ⟨m0, m1⟩ := put2_of (x := .int .i64 0) (y := .bool false) c_r_0 c_r_1
  go_wp2
  exact bodyPost_ret (v := .tuple #[.agg #[.int .i64 0, .bool false], .int .i64 2]) (by simp [results, Tryd.results28, go_sem, m0, m1]) rfl ⟨rfl, put2_below hB1 (by omega)⟩

set_option maxRecDepth 100000 in
set_option maxHeartbeats 4000000 in
theorem refMove_no2c (f : Int) (m : Bool) (S H : Int) (w : World) (h : Key.okF f = true) (s0 : ¬ S < -70) (s1 : ¬ 70 < S) (hs : H < -120) :
    Calls Tryd.prog 28 #[ky f m, iv S H] w fun e w' => e = .returned (kv 0 false 2) ∧ Below w.heap.size w w' := by
  have hB0 : Below w.heap.size w w := Below.refl _ _
  go_enter Tryd.func28, Tryd.ntmps28
  go_wp2_with fail
  refine (krefRight_yes m _ h).mono ?_
  rintro e w1 ⟨rfl, hb1⟩
  have hs1 : Below w.heap.size w w1 := Below.trans (by repeat (first | exact Below.refl _ _ | refine Below.alloc ?_ (by simp <;> omega) _)) (hb1.mono (by simp <;> omega))
  have c_k_0 : w1.cell? ⟨w.heap.size, 0, none⟩ = some (.int .i64 f) := (hb1.cell (by simp <;> omega)).trans (by go_simp)
  have c_k_1 : w1.cell? ⟨w.heap.size, 1, none⟩ = some (.bool m) := (hb1.cell (by simp <;> omega)).trans (by go_simp)
  have c_b_0 : w1.cell? ⟨w.heap.size + 1, 0, none⟩ = some (.int .i64 S) := (hb1.cell (by simp <;> omega)).trans (by go_simp)
  have c_b_1 : w1.cell? ⟨w.heap.size + 1, 1, none⟩ = some (.int .i64 H) := (hb1.cell (by simp <;> omega)).trans (by go_simp)
  have c_r_0 : w1.cell? ⟨w.heap.size + 1 + 1, 0, none⟩ = some (.int .i64 0) := (hb1.cell (by simp <;> omega)).trans (by go_simp)
  have f_r_0 : w1.frozen? ⟨w.heap.size + 1 + 1, 0, none⟩ = false := (hb1.frozen (by simp <;> omega)).trans (by go_simp)
  have c_r_1 : w1.cell? ⟨w.heap.size + 1 + 1, 1, none⟩ = some (.bool false) := (hb1.cell (by simp <;> omega)).trans (by go_simp)
  have f_r_1 : w1.frozen? ⟨w.heap.size + 1 + 1, 1, none⟩ = false := (hb1.frozen (by simp <;> omega)).trans (by go_simp)
  have z_b := World.block_lt_of_cell? _ _ c_b_0
  have z_k := World.block_lt_of_cell? _ _ c_k_0
  have z_r := World.block_lt_of_cell? _ _ c_r_0
  have hB1 := below_two hB0 hs1
  clear hB0 hs1 hb1
  obtain ⟨m0, m1⟩ := put2_of (x := .int .i64 0) (y := .bool false) c_r_0 c_r_1
  go_wp2
  exact bodyPost_ret (v := .tuple #[.agg #[.int .i64 0, .bool false], .int .i64 2]) (by simp [results, Tryd.results28, go_sem, m0, m1]) rfl ⟨rfl, put2_below hB1 (by omega)⟩

set_option maxRecDepth 100000 in
set_option maxHeartbeats 4000000 in
theorem refMove_no2d (f : Int) (m : Bool) (S H : Int) (w : World) (h : Key.okF f = true) (s0 : ¬ S < -70) (s1 : ¬ 70 < S) (g0 : ¬ H < -120) (hs : 120 < H) :
    Calls Tryd.prog 28 #[ky f m, iv S H] w fun e w' => e = .returned (kv 0 false 2) ∧ Below w.heap.size w w' := by
  have hB0 : Below w.heap.size w w := Below.refl _ _
  go_enter Tryd.func28, Tryd.ntmps28
  go_wp2_with fail
  refine (krefRight_yes m _ h).mono ?_
  rintro e w1 ⟨rfl, hb1⟩
  have hs1 : Below w.heap.size w w1 := Below.trans (by repeat (first | exact Below.refl _ _ | refine Below.alloc ?_ (by simp <;> omega) _)) (hb1.mono (by simp <;> omega))
  have c_k_0 : w1.cell? ⟨w.heap.size, 0, none⟩ = some (.int .i64 f) := (hb1.cell (by simp <;> omega)).trans (by go_simp)
  have c_k_1 : w1.cell? ⟨w.heap.size, 1, none⟩ = some (.bool m) := (hb1.cell (by simp <;> omega)).trans (by go_simp)
  have c_b_0 : w1.cell? ⟨w.heap.size + 1, 0, none⟩ = some (.int .i64 S) := (hb1.cell (by simp <;> omega)).trans (by go_simp)
  have c_b_1 : w1.cell? ⟨w.heap.size + 1, 1, none⟩ = some (.int .i64 H) := (hb1.cell (by simp <;> omega)).trans (by go_simp)
  have c_r_0 : w1.cell? ⟨w.heap.size + 1 + 1, 0, none⟩ = some (.int .i64 0) := (hb1.cell (by simp <;> omega)).trans (by go_simp)
  have f_r_0 : w1.frozen? ⟨w.heap.size + 1 + 1, 0, none⟩ = false := (hb1.frozen (by simp <;> omega)).trans (by go_simp)
  have c_r_1 : w1.cell? ⟨w.heap.size + 1 + 1, 1, none⟩ = some (.bool false) := (hb1.cell (by simp <;> omega)).trans (by go_simp)
  have f_r_1 : w1.frozen? ⟨w.heap.size + 1 + 1, 1, none⟩ = false := (hb1.frozen (by simp <;> omega)).trans (by go_simp)
  have z_b := World.block_lt_of_cell? _ _ c_b_0
  have z_k := World.block_lt_of_cell? _ _ c_k_0
  have z_r := World.block_lt_of_cell? _ _ c_r_0
  have hB1 := below_two hB0 hs1
  clear hB0 hs1 hb1
  obtain ⟨m0, m1⟩ := put2_of (x := .int .i64 0) (y := .bool false) c_r_0 c_r_1
  go_wp2
  exact bodyPost_ret (v := .tuple #[.agg #[.int .i64 0, .bool false], .int .i64 2]) (by simp [results, Tryd.results28, go_sem, m0, m1]) rfl ⟨rfl, put2_below hB1 (by omega)⟩

set_option maxRecDepth 100000 in
set_option maxHeartbeats 4000000 in
theorem refMove_no4 (f : Int) (m : Bool) (S H : Int) (w : World) (h0 : -7 ≤ f) (h7 : f ≤ 7) (s0 : -70 ≤ S) (s1 : S ≤ 70) (g0 : -120 ≤ H) (g1 : H ≤ 120) (h : Key.okF (f + (7 * H - 12 * S)) = false) :
    Calls Tryd.prog 28 #[ky f m, iv S H] w fun e w' => e = .returned (kv 0 false 30) ∧ Below w.heap.size w w' := by
  have hB0 : Below w.heap.size w w := Below.refl _ _
  go_enter Tryd.func28, Tryd.ntmps28
  go_wp2_with fail
  refine (krefRight_yes m _ (Key.okF_true h0 h7)).mono ?_
  rintro e w1 ⟨rfl, hb1⟩
  have hs1 : Below w.heap.size w w1 := Below.trans (by repeat (first | exact Below.refl _ _ | refine Below.alloc ?_ (by simp <;> omega) _)) (hb1.mono (by simp <;> omega))
  have c_k_0 : w1.cell? ⟨w.heap.size, 0, none⟩ = some (.int .i64 f) := (hb1.cell (by simp <;> omega)).trans (by go_simp)
  have c_k_1 : w1.cell? ⟨w.heap.size, 1, none⟩ = some (.bool m) := (hb1.cell (by simp <;> omega)).trans (by go_simp)
  have c_b_0 : w1.cell? ⟨w.heap.size + 1, 0, none⟩ = some (.int .i64 S) := (hb1.cell (by simp <;> omega)).trans (by go_simp)
  have c_b_1 : w1.cell? ⟨w.heap.size + 1, 1, none⟩ = some (.int .i64 H) := (hb1.cell (by simp <;> omega)).trans (by go_simp)
  have c_r_0 : w1.cell? ⟨w.heap.size + 1 + 1, 0, none⟩ = some (.int .i64 0) := (hb1.cell (by simp <;> omega)).trans (by go_simp)
  have f_r_0 : w1.frozen? ⟨w.heap.size + 1 + 1, 0, none⟩ = false := (hb1.frozen (by simp <;> omega)).trans (by go_simp)
  have c_r_1 : w1.cell? ⟨w.heap.size + 1 + 1, 1, none⟩ = some (.bool false) := (hb1.cell (by simp <;> omega)).trans (by go_simp)
  have f_r_1 : w1.frozen? ⟨w.heap.size + 1 + 1, 1, none⟩ = false := (hb1.frozen (by simp <;> omega)).trans (by go_simp)
  have z_b := World.block_lt_of_cell? _ _ c_b_0
  have z_k := World.block_lt_of_cell? _ _ c_k_0
  have z_r := World.block_lt_of_cell? _ _ c_r_0
  have hB1 := below_two hB0 hs1
  clear hB0 hs1 hb1
  go_wp2_with fail
  rw [show f + 7 * H - 12 * S = f + (7 * H - 12 * S) by omega]
  refine (krefRight_no m _ h).mono ?_
  rintro e w2 ⟨rfl, hb2⟩
  have hs2 : Below w1.heap.size w1 w2 := Below.trans (by repeat (first | exact Below.refl _ _ | refine Below.alloc ?_ (by simp <;> omega) _)) (hb2.mono (by simp <;> omega))
  replace c_k_0 := cell_later hs2 c_k_0
  replace c_k_1 := cell_later hs2 c_k_1
  replace c_b_0 := cell_later hs2 c_b_0
  replace c_b_1 := cell_later hs2 c_b_1
  replace f_r_0 := frozen_later hs2 c_r_0 f_r_0
  replace c_r_0 := cell_later hs2 c_r_0
  replace f_r_1 := frozen_later hs2 c_r_1 f_r_1
  replace c_r_1 := cell_later hs2 c_r_1
  have c_m_0 : w2.cell? ⟨w1.heap.size, 0, none⟩ = some (.int .i64 (f + (7 * H - 12 * S))) := (hb2.cell (by simp <;> omega)).trans (by go_simp)
  have c_m_1 : w2.cell? ⟨w1.heap.size, 1, none⟩ = some (.bool m) := (hb2.cell (by simp <;> omega)).trans (by go_simp)
  clear z_b
  have z_b := World.block_lt_of_cell? _ _ c_b_0
  clear z_k
  have z_k := World.block_lt_of_cell? _ _ c_k_0
  have z_m := World.block_lt_of_cell? _ _ c_m_0
  clear z_r
  have z_r := World.block_lt_of_cell? _ _ c_r_0
  have hB2 := below_two hB1 hs2
  clear hB1 hs2 hb2
  obtain ⟨m0, m1⟩ := put2_of (x := .int .i64 0) (y := .bool false) c_r_0 c_r_1
  go_wp2
  exact bodyPost_ret (v := .tuple #[.agg #[.int .i64 0, .bool false], .int .i64 30]) (by simp [results, Tryd.results28, go_sem, m0, m1]) rfl ⟨rfl, put2_below hB2 (by omega)⟩

set_option maxRecDepth 100000 in
set_option maxHeartbeats 4000000 in
theorem refMove_yes (f : Int) (m : Bool) (S H : Int) (w : World) (h0 : -7 ≤ f) (h7 : f ≤ 7) (s0 : -70 ≤ S) (s1 : S ≤ 70) (g0 : -120 ≤ H) (g1 : H ≤ 120) (h : Key.okF (f + (7 * H - 12 * S)) = true) :
    Calls Tryd.prog 28 #[ky f m, iv S H] w fun e w' => e = .returned (kv (f + (7 * H - 12 * S)) m 0) ∧ Below w.heap.size w w' := by
  have hB0 : Below w.heap.size w w := Below.refl _ _
  go_enter Tryd.func28, Tryd.ntmps28
  go_wp2_with fail
  refine (krefRight_yes m _ (Key.okF_true h0 h7)).mono ?_
  rintro e w1 ⟨rfl, hb1⟩
  have hs1 : Below w.heap.size w w1 := Below.trans (by repeat (first | exact Below.refl _ _ | refine Below.alloc ?_ (by simp <;> omega) _)) (hb1.mono (by simp <;> omega))
  have c_k_0 : w1.cell? ⟨w.heap.size, 0, none⟩ = some (.int .i64 f) := (hb1.cell (by simp <;> omega)).trans (by go_simp)
  have c_k_1 : w1.cell? ⟨w.heap.size, 1, none⟩ = some (.bool m) := (hb1.cell (by simp <;> omega)).trans (by go_simp)
  have c_b_0 : w1.cell? ⟨w.heap.size + 1, 0, none⟩ = some (.int .i64 S) := (hb1.cell (by simp <;> omega)).trans (by go_simp)
  have c_b_1 : w1.cell? ⟨w.heap.size + 1, 1, none⟩ = some (.int .i64 H) := (hb1.cell (by simp <;> omega)).trans (by go_simp)
  have c_r_0 : w1.cell? ⟨w.heap.size + 1 + 1, 0, none⟩ = some (.int .i64 0) := (hb1.cell (by simp <;> omega)).trans (by go_simp)
  have f_r_0 : w1.frozen? ⟨w.heap.size + 1 + 1, 0, none⟩ = false := (hb1.frozen (by simp <;> omega)).trans (by go_simp)
  have c_r_1 : w1.cell? ⟨w.heap.size + 1 + 1, 1, none⟩ = some (.bool false) := (hb1.cell (by simp <;> omega)).trans (by go_simp)
  have f_r_1 : w1.frozen? ⟨w.heap.size + 1 + 1, 1, none⟩ = false := (hb1.frozen (by simp <;> omega)).trans (by go_simp)
  have z_b := World.block_lt_of_cell? _ _ c_b_0
  have z_k := World.block_lt_of_cell? _ _ c_k_0
  have z_r := World.block_lt_of_cell? _ _ c_r_0
  have hB1 := below_two hB0 hs1
  clear hB0 hs1 hb1
  go_wp2_with fail
  rw [show f + 7 * H - 12 * S = f + (7 * H - 12 * S) by omega]
  refine (krefRight_yes m _ h).mono ?_
  rintro e w2 ⟨rfl, hb2⟩
  have hs2 : Below w1.heap.size w1 w2 := Below.trans (by repeat (first | exact Below.refl _ _ | refine Below.alloc ?_ (by simp <;> omega) _)) (hb2.mono (by simp <;> omega))
  replace c_k_0 := cell_later hs2 c_k_0
  replace c_k_1 := cell_later hs2 c_k_1
  replace c_b_0 := cell_later hs2 c_b_0
  replace c_b_1 := cell_later hs2 c_b_1
  replace f_r_0 := frozen_later hs2 c_r_0 f_r_0
  replace c_r_0 := cell_later hs2 c_r_0
  replace f_r_1 := frozen_later hs2 c_r_1 f_r_1
  replace c_r_1 := cell_later hs2 c_r_1
  have c_m_0 : w2.cell? ⟨w1.heap.size, 0, none⟩ = some (.int .i64 (f + (7 * H - 12 * S))) := (hb2.cell (by simp <;> omega)).trans (by go_simp)
  have c_m_1 : w2.cell? ⟨w1.heap.size, 1, none⟩ = some (.bool m) := (hb2.cell (by simp <;> omega)).trans (by go_simp)
  clear z_b
  have z_b := World.block_lt_of_cell? _ _ c_b_0
  clear z_k
  have z_k := World.block_lt_of_cell? _ _ c_k_0
  have z_m := World.block_lt_of_cell? _ _ c_m_0
  clear z_r
  have z_r := World.block_lt_of_cell? _ _ c_r_0
  have hB2 := below_two hB1 hs2
  clear hB1 hs2 hb2
  obtain ⟨m0, m1⟩ := put2_of (x := .int .i64 (f + (7 * H - 12 * S))) (y := .bool m) c_r_0 c_r_1
  go_wp2
  exact bodyPost_ret (v := .tuple #[.agg #[.int .i64 (f + (7 * H - 12 * S)), .bool m], .int .i64 0]) (by simp [results, Tryd.results28, go_sem, m0, m1]) rfl ⟨rfl, put2_below hB2 (by omega)⟩

theorem refMove_any (f : Int) (m : Bool) (S H : Int) (w : World) :
    Calls Tryd.prog 28 #[ky f m, iv S H] w fun e w' => e = .returned (kv (Key.mvF f S H) (Key.mvM f m S H) (Key.mvE f S H)) ∧ Below w.heap.size w w' := by
  unfold Key.mvF Key.mvM Key.mvE
  cases hf : Key.okF f
  · exact refMove_no1 f m S H w hf
  · obtain ⟨h0, h7⟩ := (Key.okF_iff f).1 hf
    by_cases hr : -70 ≤ S ∧ S ≤ 70 ∧ -120 ≤ H ∧ H ≤ 120
    · obtain ⟨s0, s1, g0, g1⟩ := hr
      rw [decide_eq_true ⟨s0, s1, g0, g1⟩]
      cases hg : Key.okF (f + (7 * H - 12 * S))
      · exact refMove_no4 f m S H w h0 h7 s0 s1 g0 g1 hg
      · exact refMove_yes f m S H w h0 h7 s0 s1 g0 g1 hg
    · rw [decide_eq_false hr]
      by_cases a1 : S < -70
      · exact refMove_no2a f m S H w hf a1
      · by_cases a2 : 70 < S
        · exact refMove_no2b f m S H w hf a1 a2
        · by_cases a3 : H < -120
          · exact refMove_no2c f m S H w hf a1 a2 a3
          · exact refMove_no2d f m S H w hf a1 a2 a3 (by omega)
end Go.Proofs.YtahcbgngdpjhkaaDoor
