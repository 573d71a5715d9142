/-
  The contract of key.Move.
-/
import Derived.Test.YtahcbgngdpjhkaaDoorKeyC
namespace Go.Proofs.YtahcbgngdpjhkaaDoor
open Go.RowKit

theorem put2k_below {n B : Nat} {w W : World} {x y : Value} (h : Below n w W) (hB : n ≤ B) : Below n w ((W.setCell ⟨B, 0, none⟩ x).setCell ⟨B, 1, none⟩ y) := (h.setCell hB _).setCell hB _
/-- What Move answers. -/
abbrev kv (f : Int) (m : Bool) (e : Int) : Value := .tuple #[ky f m, .int .i64 e]

set_option maxRecDepth 100000 in
set_option maxHeartbeats 4000000 in
theorem move_no1 (f : Int) (m : Bool) (S H : Int) (w : World) (h : Key.okF f = false) :
    Calls Tryd.prog 27 #[ky f m, iv S H] w fun e w' => e = .returned (kv 0 false 30) ∧ Below w.heap.size w w' := by
  have hB0 : Below w.heap.size w w := Below.refl _ _
  go_enter Tryd.func27, Tryd.ntmps27
  go_wp2_with fail
  refine (kright_no m _ h).mono ?_
  rintro e w1 ⟨rfl, hb1⟩
  have hs1 : Below w.heap.size w w1 := Below.trans (by repeat (first | exact Below.refl _ _ | refine Below.alloc ?_ (by simp <;> omega) _)) (hb1.mono (by simp <;> omega))
  have c_k_0 : w1.cell? ⟨w.heap.size, 0, none⟩ = some (.int .i64 f) := (hb1.cell (by simp <;> omega)).trans (by go_simp)
  have f_k_0 : w1.frozen? ⟨w.heap.size, 0, none⟩ = false := (hb1.frozen (by simp <;> omega)).trans (by go_simp)
  have c_k_1 : w1.cell? ⟨w.heap.size, 1, none⟩ = some (.bool m) := (hb1.cell (by simp <;> omega)).trans (by go_simp)
  have f_k_1 : w1.frozen? ⟨w.heap.size, 1, none⟩ = false := (hb1.frozen (by simp <;> omega)).trans (by go_simp)
  have c_b_0 : w1.cell? ⟨w.heap.size + 1, 0, none⟩ = some (.int .i64 S) := (hb1.cell (by simp <;> omega)).trans (by go_simp)
  have c_b_1 : w1.cell? ⟨w.heap.size + 1, 1, none⟩ = some (.int .i64 H) := (hb1.cell (by simp <;> omega)).trans (by go_simp)
  have c_r_0 : w1.cell? ⟨w.heap.size + 1 + 1, 0, none⟩ = some (.int .i64 0) := (hb1.cell (by simp <;> omega)).trans (by go_simp)
  have f_r_0 : w1.frozen? ⟨w.heap.size + 1 + 1, 0, none⟩ = false := (hb1.frozen (by simp <;> omega)).trans (by go_simp)
  have c_r_1 : w1.cell? ⟨w.heap.size + 1 + 1, 1, none⟩ = some (.bool false) := (hb1.cell (by simp <;> omega)).trans (by go_simp)
  have f_r_1 : w1.frozen? ⟨w.heap.size + 1 + 1, 1, none⟩ = false := (hb1.frozen (by simp <;> omega)).trans (by go_simp)
  have z_b := World.block_lt_of_cell? _ _ c_b_0
  have z_k := World.block_lt_of_cell? _ _ c_k_0
  have z_r := World.block_lt_of_cell? _ _ c_r_0
  have hB1 := below_two hB0 hs1
  clear hB0 hs1 hb1
  obtain ⟨m0, m1⟩ := put2_of (x := .int .i64 0) (y := .bool false) c_r_0 c_r_1
  go_wp2
  exact bodyPost_ret (v := .tuple #[.agg #[.int .i64 0, .bool false], .int .i64 30]) (by simp [results, Tryd.results27, go_sem, m0, m1]) rfl ⟨rfl, put2_below hB1 (by omega)⟩

set_option maxRecDepth 100000 in
set_option maxHeartbeats 4000000 in
theorem move_no2 (f : Int) (m : Bool) (S H : Int) (w : World) (h0 : -7 ≤ f) (h7 : f ≤ 7) (h : ¬ (-70 ≤ S ∧ S ≤ 70)) :
    Calls Tryd.prog 27 #[ky f m, iv S H] w fun e w' => e = .returned (kv 0 false 2) ∧ Below w.heap.size w w' := by
  have hB0 : Below w.heap.size w w := Below.refl _ _
  go_enter Tryd.func27, Tryd.ntmps27
  go_wp2_with fail
  refine (kright_yes m _ h0 h7).mono ?_
  rintro e w1 ⟨rfl, hb1⟩
  have hs1 : Below w.heap.size w w1 := Below.trans (by repeat (first | exact Below.refl _ _ | refine Below.alloc ?_ (by simp <;> omega) _)) (hb1.mono (by simp <;> omega))
  have c_k_0 : w1.cell? ⟨w.heap.size, 0, none⟩ = some (.int .i64 f) := (hb1.cell (by simp <;> omega)).trans (by go_simp)
  have f_k_0 : w1.frozen? ⟨w.heap.size, 0, none⟩ = false := (hb1.frozen (by simp <;> omega)).trans (by go_simp)
  have c_k_1 : w1.cell? ⟨w.heap.size, 1, none⟩ = some (.bool m) := (hb1.cell (by simp <;> omega)).trans (by go_simp)
  have f_k_1 : w1.frozen? ⟨w.heap.size, 1, none⟩ = false := (hb1.frozen (by simp <;> omega)).trans (by go_simp)
  have c_b_0 : w1.cell? ⟨w.heap.size + 1, 0, none⟩ = some (.int .i64 S) := (hb1.cell (by simp <;> omega)).trans (by go_simp)
  have c_b_1 : w1.cell? ⟨w.heap.size + 1, 1, none⟩ = some (.int .i64 H) := (hb1.cell (by simp <;> omega)).trans (by go_simp)
  have c_r_0 : w1.cell? ⟨w.heap.size + 1 + 1, 0, none⟩ = some (.int .i64 0) := (hb1.cell (by simp <;> omega)).trans (by go_simp)
  have f_r_0 : w1.frozen? ⟨w.heap.size + 1 + 1, 0, none⟩ = false := (hb1.frozen (by simp <;> omega)).trans (by go_simp)
  have c_r_1 : w1.cell? ⟨w.heap.size + 1 + 1, 1, none⟩ = some (.bool false) := (hb1.cell (by simp <;> omega)).trans (by go_simp)
  have f_r_1 : w1.frozen? ⟨w.heap.size + 1 + 1, 1, none⟩ = false := (hb1.frozen (by simp <;> omega)).trans (by go_simp)
  have z_b := World.block_lt_of_cell? _ _ c_b_0
  have z_k := World.block_lt_of_cell? _ _ c_k_0
  have z_r := World.block_lt_of_cell? _ _ c_r_0
  have hB1 := below_two hB0 hs1
  clear hB0 hs1 hb1
  go_wp2_with fail
  refine (kwithin_no h _).mono ?_
  rintro e wx ⟨rfl, rfl⟩
  obtain ⟨m0, m1⟩ := put2_of (x := .int .i64 0) (y := .bool false) c_r_0 c_r_1
  go_wp2
  exact bodyPost_ret (v := .tuple #[.agg #[.int .i64 0, .bool false], .int .i64 2]) (by simp [results, Tryd.results27, go_sem, m0, m1]) rfl ⟨rfl, put2_below hB1 (by omega)⟩

set_option maxRecDepth 100000 in
set_option maxHeartbeats 4000000 in
theorem move_no3 (f : Int) (m : Bool) (S H : Int) (w : World) (h0 : -7 ≤ f) (h7 : f ≤ 7) (s0 : -70 ≤ S) (s1 : S ≤ 70) (h : ¬ (-120 ≤ H ∧ H ≤ 120)) :
    Calls Tryd.prog 27 #[ky f m, iv S H] w fun e w' => e = .returned (kv 0 false 2) ∧ Below w.heap.size w w' := by
  have hB0 : Below w.heap.size w w := Below.refl _ _
  go_enter Tryd.func27, Tryd.ntmps27
  go_wp2_with fail
  refine (kright_yes m _ h0 h7).mono ?_
  rintro e w1 ⟨rfl, hb1⟩
  have hs1 : Below w.heap.size w w1 := Below.trans (by repeat (first | exact Below.refl _ _ | refine Below.alloc ?_ (by simp <;> omega) _)) (hb1.mono (by simp <;> omega))
  have c_k_0 : w1.cell? ⟨w.heap.size, 0, none⟩ = some (.int .i64 f) := (hb1.cell (by simp <;> omega)).trans (by go_simp)
  have f_k_0 : w1.frozen? ⟨w.heap.size, 0, none⟩ = false := (hb1.frozen (by simp <;> omega)).trans (by go_simp)
  have c_k_1 : w1.cell? ⟨w.heap.size, 1, none⟩ = some (.bool m) := (hb1.cell (by simp <;> omega)).trans (by go_simp)
  have f_k_1 : w1.frozen? ⟨w.heap.size, 1, none⟩ = false := (hb1.frozen (by simp <;> omega)).trans (by go_simp)
  have c_b_0 : w1.cell? ⟨w.heap.size + 1, 0, none⟩ = some (.int .i64 S) := (hb1.cell (by simp <;> omega)).trans (by go_simp)
  have c_b_1 : w1.cell? ⟨w.heap.size + 1, 1, none⟩ = some (.int .i64 H) := (hb1.cell (by simp <;> omega)).trans (by go_simp)
  have c_r_0 : w1.cell? ⟨w.heap.size + 1 + 1, 0, none⟩ = some (.int .i64 0) := (hb1.cell (by simp <;> omega)).trans (by go_simp)
  have f_r_0 : w1.frozen? ⟨w.heap.size + 1 + 1, 0, none⟩ = false := (hb1.frozen (by simp <;> omega)).trans (by go_simp)
  have c_r_1 : w1.cell? ⟨w.heap.size + 1 + 1, 1, none⟩ = some (.bool false) := (hb1.cell (by simp <;> omega)).trans (by go_simp)
  have f_r_1 : w1.frozen? ⟨w.heap.size + 1 + 1, 1, none⟩ = false := (hb1.frozen (by simp <;> omega)).trans (by go_simp)
  have z_b := World.block_lt_of_cell? _ _ c_b_0
  have z_k := World.block_lt_of_cell? _ _ c_k_0
  have z_r := World.block_lt_of_cell? _ _ c_r_0
  have hB1 := below_two hB0 hs1
  clear hB0 hs1 hb1
  go_wp2_with fail
  refine (kwithin_yes s0 s1 _).mono ?_
  rintro e wx ⟨rfl, rfl⟩
  go_wp2_with fail
  refine (kwithin_no h _).mono ?_
  rintro e wx ⟨rfl, rfl⟩
  obtain ⟨m0, m1⟩ := put2_of (x := .int .i64 0) (y := .bool false) c_r_0 c_r_1
  go_wp2
  exact bodyPost_ret (v := .tuple #[.agg #[.int .i64 0, .bool false], .int .i64 2]) (by simp [results, Tryd.results27, go_sem, m0, m1]) rfl ⟨rfl, put2_below hB1 (by omega)⟩

set_option maxRecDepth 100000 in
set_option maxHeartbeats 4000000 in
theorem move_no4 (f : Int) (m : Bool) (S H : Int) (w : World) (h0 : -7 ≤ f) (h7 : f ≤ 7) (s0 : -70 ≤ S) (s1 : S ≤ 70) (g0 : -120 ≤ H) (g1 : H ≤ 120) (h : Key.okF (f + (7 * H - 12 * S)) = false) :
    Calls Tryd.prog 27 #[ky f m, iv S H] w fun e w' => e = .returned (kv 0 false 30) ∧ Below w.heap.size w w' := by
  have hB0 : Below w.heap.size w w := Below.refl _ _
  go_enter Tryd.func27, Tryd.ntmps27
  go_wp2_with fail
  refine (kright_yes m _ h0 h7).mono ?_
  rintro e w1 ⟨rfl, hb1⟩
  have hs1 : Below w.heap.size w w1 := Below.trans (by repeat (first | exact Below.refl _ _ | refine Below.alloc ?_ (by simp <;> omega) _)) (hb1.mono (by simp <;> omega))
  have c_k_0 : w1.cell? ⟨w.heap.size, 0, none⟩ = some (.int .i64 f) := (hb1.cell (by simp <;> omega)).trans (by go_simp)
  have f_k_0 : w1.frozen? ⟨w.heap.size, 0, none⟩ = false := (hb1.frozen (by simp <;> omega)).trans (by go_simp)
  have c_k_1 : w1.cell? ⟨w.heap.size, 1, none⟩ = some (.bool m) := (hb1.cell (by simp <;> omega)).trans (by go_simp)
  have f_k_1 : w1.frozen? ⟨w.heap.size, 1, none⟩ = false := (hb1.frozen (by simp <;> omega)).trans (by go_simp)
  have c_b_0 : w1.cell? ⟨w.heap.size + 1, 0, none⟩ = some (.int .i64 S) := (hb1.cell (by simp <;> omega)).trans (by go_simp)
  have c_b_1 : w1.cell? ⟨w.heap.size + 1, 1, none⟩ = some (.int .i64 H) := (hb1.cell (by simp <;> omega)).trans (by go_simp)
  have c_r_0 : w1.cell? ⟨w.heap.size + 1 + 1, 0, none⟩ = some (.int .i64 0) := (hb1.cell (by simp <;> omega)).trans (by go_simp)
  have f_r_0 : w1.frozen? ⟨w.heap.size + 1 + 1, 0, none⟩ = false := (hb1.frozen (by simp <;> omega)).trans (by go_simp)
  have c_r_1 : w1.cell? ⟨w.heap.size + 1 + 1, 1, none⟩ = some (.bool false) := (hb1.cell (by simp <;> omega)).trans (by go_simp)
  have f_r_1 : w1.frozen? ⟨w.heap.size + 1 + 1, 1, none⟩ = false := (hb1.frozen (by simp <;> omega)).trans (by go_simp)
  have z_b := World.block_lt_of_cell? _ _ c_b_0
  have z_k := World.block_lt_of_cell? _ _ c_k_0
  have z_r := World.block_lt_of_cell? _ _ c_r_0
  have hB1 := below_two hB0 hs1
  clear hB0 hs1 hb1
  go_wp2_with fail
  refine (kwithin_yes s0 s1 _).mono ?_
  rintro e wx ⟨rfl, rfl⟩
  go_wp2_with fail
  refine (kwithin_yes g0 g1 _).mono ?_
  rintro e wx ⟨rfl, rfl⟩
  go_wp2_with fail
  have n_c_k_0 : (w1.setCell ⟨w.heap.size, 0, none⟩ (.int .i64 (f + (7 * H - 12 * S)))).cell? ⟨w.heap.size, 0, none⟩ = some (.int .i64 (f + (7 * H - 12 * S))) := set_same (held_of c_k_0)
  have n_f_k_0 : (w1.setCell ⟨w.heap.size, 0, none⟩ (.int .i64 (f + (7 * H - 12 * S)))).frozen? ⟨w.heap.size, 0, none⟩ = false := set_frozen f_k_0
  have n_c_k_1 : (w1.setCell ⟨w.heap.size, 0, none⟩ (.int .i64 (f + (7 * H - 12 * S)))).cell? ⟨w.heap.size, 1, none⟩ = some (.bool m) := set_beside (by decide) c_k_1
  have n_f_k_1 : (w1.setCell ⟨w.heap.size, 0, none⟩ (.int .i64 (f + (7 * H - 12 * S)))).frozen? ⟨w.heap.size, 1, none⟩ = false := set_frozen f_k_1
  have n_c_b_0 : (w1.setCell ⟨w.heap.size, 0, none⟩ (.int .i64 (f + (7 * H - 12 * S)))).cell? ⟨w.heap.size + 1, 0, none⟩ = some (.int .i64 S) := set_far (by omega) c_b_0
  have n_c_b_1 : (w1.setCell ⟨w.heap.size, 0, none⟩ (.int .i64 (f + (7 * H - 12 * S)))).cell? ⟨w.heap.size + 1, 1, none⟩ = some (.int .i64 H) := set_far (by omega) c_b_1
  have n_c_r_0 : (w1.setCell ⟨w.heap.size, 0, none⟩ (.int .i64 (f + (7 * H - 12 * S)))).cell? ⟨w.heap.size + 1 + 1, 0, none⟩ = some (.int .i64 0) := set_far (by omega) c_r_0
  have n_f_r_0 : (w1.setCell ⟨w.heap.size, 0, none⟩ (.int .i64 (f + (7 * H - 12 * S)))).frozen? ⟨w.heap.size + 1 + 1, 0, none⟩ = false := set_frozen f_r_0
  have n_c_r_1 : (w1.setCell ⟨w.heap.size, 0, none⟩ (.int .i64 (f + (7 * H - 12 * S)))).cell? ⟨w.heap.size + 1 + 1, 1, none⟩ = some (.bool false) := set_far (by omega) c_r_1
  have n_f_r_1 : (w1.setCell ⟨w.heap.size, 0, none⟩ (.int .i64 (f + (7 * H - 12 * S)))).frozen? ⟨w.heap.size + 1 + 1, 1, none⟩ = false := set_frozen f_r_1
  have hB2 : Below w.heap.size w (w1.setCell ⟨w.heap.size, 0, none⟩ (.int .i64 (f + (7 * H - 12 * S)))) := set1_below hB1 (by omega)
  clear c_k_0 c_k_1 c_b_0 c_b_1 c_r_0 c_r_1 f_k_0 f_k_1 f_r_0 f_r_1 hB1 z_b z_k z_r
  have c_k_0 := n_c_k_0
  clear n_c_k_0
  have c_k_1 := n_c_k_1
  clear n_c_k_1
  have c_b_0 := n_c_b_0
  clear n_c_b_0
  have c_b_1 := n_c_b_1
  clear n_c_b_1
  have c_r_0 := n_c_r_0
  clear n_c_r_0
  have c_r_1 := n_c_r_1
  clear n_c_r_1
  have f_k_0 := n_f_k_0
  clear n_f_k_0
  have f_k_1 := n_f_k_1
  clear n_f_k_1
  have f_r_0 := n_f_r_0
  clear n_f_r_0
  have f_r_1 := n_f_r_1
  clear n_f_r_1
  generalize w1.setCell ⟨w.heap.size, 0, none⟩ (.int .i64 (f + (7 * H - 12 * S))) = w2 at *
  have z_b := World.block_lt_of_cell? _ _ c_b_0
  have z_k := World.block_lt_of_cell? _ _ c_k_0
  have z_r := World.block_lt_of_cell? _ _ c_r_0
  go_wp2_with fail
  refine (kright_no m _ h).mono ?_
  rintro e w3 ⟨rfl, hb3⟩
  have hs3 := hb3
  replace f_k_0 := frozen_later hs3 c_k_0 f_k_0
  replace c_k_0 := cell_later hs3 c_k_0
  replace f_k_1 := frozen_later hs3 c_k_1 f_k_1
  replace c_k_1 := cell_later hs3 c_k_1
  replace c_b_0 := cell_later hs3 c_b_0
  replace c_b_1 := cell_later hs3 c_b_1
  replace f_r_0 := frozen_later hs3 c_r_0 f_r_0
  replace c_r_0 := cell_later hs3 c_r_0
  replace f_r_1 := frozen_later hs3 c_r_1 f_r_1
  replace c_r_1 := cell_later hs3 c_r_1
  clear z_b
  have z_b := World.block_lt_of_cell? _ _ c_b_0
  clear z_k
  have z_k := World.block_lt_of_cell? _ _ c_k_0
  clear z_r
  have z_r := World.block_lt_of_cell? _ _ c_r_0
  have hB3 := below_two hB2 hs3
  clear hB2 hs3
  obtain ⟨m0, m1⟩ := put2_of (x := .int .i64 0) (y := .bool false) c_r_0 c_r_1
  go_wp2
  exact bodyPost_ret (v := .tuple #[.agg #[.int .i64 0, .bool false], .int .i64 30]) (by simp [results, Tryd.results27, go_sem, m0, m1]) rfl ⟨rfl, put2_below hB3 (by omega)⟩

set_option maxRecDepth 100000 in
set_option maxHeartbeats 4000000 in
theorem move_yes (f : Int) (m : Bool) (S H : Int) (w : World) (h0 : -7 ≤ f) (h7 : f ≤ 7) (s0 : -70 ≤ S) (s1 : S ≤ 70) (g0 : -120 ≤ H) (g1 : H ≤ 120) (k0 : -7 ≤ f + (7 * H - 12 * S)) (k7 : f + (7 * H - 12 * S) ≤ 7) :
    Calls Tryd.prog 27 #[ky f m, iv S H] w fun e w' => e = .returned (kv (f + (7 * H - 12 * S)) m 0) ∧ Below w.heap.size w w' := by
  have hB0 : Below w.heap.size w w := Below.refl _ _
  go_enter Tryd.func27, Tryd.ntmps27
  go_wp2_with fail
  refine (kright_yes m _ h0 h7).mono ?_
  rintro e w1 ⟨rfl, hb1⟩
  have hs1 : Below w.heap.size w w1 := Below.trans (by repeat (first | exact Below.refl _ _ | refine Below.alloc ?_ (by simp <;> omega) _)) (hb1.mono (by simp <;> omega))
  have c_k_0 : w1.cell? ⟨w.heap.size, 0, none⟩ = some (.int .i64 f) := (hb1.cell (by simp <;> omega)).trans (by go_simp)
  have f_k_0 : w1.frozen? ⟨w.heap.size, 0, none⟩ = false := (hb1.frozen (by simp <;> omega)).trans (by go_simp)
  have c_k_1 : w1.cell? ⟨w.heap.size, 1, none⟩ = some (.bool m) := (hb1.cell (by simp <;> omega)).trans (by go_simp)
  have f_k_1 : w1.frozen? ⟨w.heap.size, 1, none⟩ = false := (hb1.frozen (by simp <;> omega)).trans (by go_simp)
  have c_b_0 : w1.cell? ⟨w.heap.size + 1, 0, none⟩ = some (.int .i64 S) := (hb1.cell (by simp <;> omega)).trans (by go_simp)
  have c_b_1 : w1.cell? ⟨w.heap.size + 1, 1, none⟩ = some (.int .i64 H) := (hb1.cell (by simp <;> omega)).trans (by go_simp)
  have c_r_0 : w1.cell? ⟨w.heap.size + 1 + 1, 0, none⟩ = some (.int .i64 0) := (hb1.cell (by simp <;> omega)).trans (by go_simp)
  have f_r_0 : w1.frozen? ⟨w.heap.size + 1 + 1, 0, none⟩ = false := (hb1.frozen (by simp <;> omega)).trans (by go_simp)
  have c_r_1 : w1.cell? ⟨w.heap.size + 1 + 1, 1, none⟩ = some (.bool false) := (hb1.cell (by simp <;> omega)).trans (by go_simp)
  have f_r_1 : w1.frozen? ⟨w.heap.size + 1 + 1, 1, none⟩ = false := (hb1.frozen (by simp <;> omega)).trans (by go_simp)
  have z_b := World.block_lt_of_cell? _ _ c_b_0
  have z_k := World.block_lt_of_cell? _ _ c_k_0
  have z_r := World.block_lt_of_cell? _ _ c_r_0
  have hB1 := below_two hB0 hs1
  clear hB0 hs1 hb1
  go_wp2_with fail
  refine (kwithin_yes s0 s1 _).mono ?_
  rintro e wx ⟨rfl, rfl⟩
  go_wp2_with fail
  refine (kwithin_yes g0 g1 _).mono ?_
  rintro e wx ⟨rfl, rfl⟩
  go_wp2_with fail
  have n_c_k_0 : (w1.setCell ⟨w.heap.size, 0, none⟩ (.int .i64 (f + (7 * H - 12 * S)))).cell? ⟨w.heap.size, 0, none⟩ = some (.int .i64 (f + (7 * H - 12 * S))) := set_same (held_of c_k_0)
  have n_f_k_0 : (w1.setCell ⟨w.heap.size, 0, none⟩ (.int .i64 (f + (7 * H - 12 * S)))).frozen? ⟨w.heap.size, 0, none⟩ = false := set_frozen f_k_0
  have n_c_k_1 : (w1.setCell ⟨w.heap.size, 0, none⟩ (.int .i64 (f + (7 * H - 12 * S)))).cell? ⟨w.heap.size, 1, none⟩ = some (.bool m) := set_beside (by decide) c_k_1
  have n_f_k_1 : (w1.setCell ⟨w.heap.size, 0, none⟩ (.int .i64 (f + (7 * H - 12 * S)))).frozen? ⟨w.heap.size, 1, none⟩ = false := set_frozen f_k_1
  have n_c_b_0 : (w1.setCell ⟨w.heap.size, 0, none⟩ (.int .i64 (f + (7 * H - 12 * S)))).cell? ⟨w.heap.size + 1, 0, none⟩ = some (.int .i64 S) := set_far (by omega) c_b_0
  have n_c_b_1 : (w1.setCell ⟨w.heap.size, 0, none⟩ (.int .i64 (f + (7 * H - 12 * S)))).cell? ⟨w.heap.size + 1, 1, none⟩ = some (.int .i64 H) := set_far (by omega) c_b_1
  have n_c_r_0 : (w1.setCell ⟨w.heap.size, 0, none⟩ (.int .i64 (f + (7 * H - 12 * S)))).cell? ⟨w.heap.size + 1 + 1, 0, none⟩ = some (.int .i64 0) := set_far (by omega) c_r_0
  have n_f_r_0 : (w1.setCell ⟨w.heap.size, 0, none⟩ (.int .i64 (f + (7 * H - 12 * S)))).frozen? ⟨w.heap.size + 1 + 1, 0, none⟩ = false := set_frozen f_r_0
  have n_c_r_1 : (w1.setCell ⟨w.heap.size, 0, none⟩ (.int .i64 (f + (7 * H - 12 * S)))).cell? ⟨w.heap.size + 1 + 1, 1, none⟩ = some (.bool false) := set_far (by omega) c_r_1
  have n_f_r_1 : (w1.setCell ⟨w.heap.size, 0, none⟩ (.int .i64 (f + (7 * H - 12 * S)))).frozen? ⟨w.heap.size + 1 + 1, 1, none⟩ = false := set_frozen f_r_1
  have hB2 : Below w.heap.size w (w1.setCell ⟨w.heap.size, 0, none⟩ (.int .i64 (f + (7 * H - 12 * S)))) := set1_below hB1 (by omega)
  clear c_k_0 c_k_1 c_b_0 c_b_1 c_r_0 c_r_1 f_k_0 f_k_1 f_r_0 f_r_1 hB1 z_b z_k z_r
  have c_k_0 := n_c_k_0
  clear n_c_k_0
  have c_k_1 := n_c_k_1
  clear n_c_k_1
  have c_b_0 := n_c_b_0
  clear n_c_b_0
  have c_b_1 := n_c_b_1
  clear n_c_b_1
  have c_r_0 := n_c_r_0
  clear n_c_r_0
  have c_r_1 := n_c_r_1
  clear n_c_r_1
  have f_k_0 := n_f_k_0
  clear n_f_k_0
  have f_k_1 := n_f_k_1
  clear n_f_k_1
  have f_r_0 := n_f_r_0
  clear n_f_r_0
  have f_r_1 := n_f_r_1
  clear n_f_r_1
  generalize w1.setCell ⟨w.heap.size, 0, none⟩ (.int .i64 (f + (7 * H - 12 * S))) = w2 at *
  have z_b := World.block_lt_of_cell? _ _ c_b_0
  have z_k := World.block_lt_of_cell? _ _ c_k_0
  have z_r := World.block_lt_of_cell? _ _ c_r_0
  go_wp2_with fail
  refine (kright_yes m _ k0 k7).mono ?_
  rintro e w3 ⟨rfl, hb3⟩
  have hs3 := hb3
  replace f_k_0 := frozen_later hs3 c_k_0 f_k_0
  replace c_k_0 := cell_later hs3 c_k_0
  replace f_k_1 := frozen_later hs3 c_k_1 f_k_1
  replace c_k_1 := cell_later hs3 c_k_1
  replace c_b_0 := cell_later hs3 c_b_0
  replace c_b_1 := cell_later hs3 c_b_1
  replace f_r_0 := frozen_later hs3 c_r_0 f_r_0
  replace c_r_0 := cell_later hs3 c_r_0
  replace f_r_1 := frozen_later hs3 c_r_1 f_r_1
  replace c_r_1 := cell_later hs3 c_r_1
  clear z_b
  have z_b := World.block_lt_of_cell? _ _ c_b_0
  clear z_k
  have z_k := World.block_lt_of_cell? _ _ c_k_0
  clear z_r
  have z_r := World.block_lt_of_cell? _ _ c_r_0
  have hB3 := below_two hB2 hs3
  clear hB2 hs3
  obtain ⟨m0, m1⟩ := put2_of (x := .int .i64 (f + (7 * H - 12 * S))) (y := .bool m) c_r_0 c_r_1
  go_wp2
  exact bodyPost_ret (v := .tuple #[.agg #[.int .i64 (f + (7 * H - 12 * S)), .bool m], .int .i64 0]) (by simp [results, Tryd.results27, go_sem, m0, m1]) rfl ⟨rfl, put2_below hB3 (by omega)⟩

theorem move_any (f : Int) (m : Bool) (S H : Int) (w : World) :
    Calls Tryd.prog 27 #[ky f m, iv S H] w fun e w' => e = .returned (kv (Key.mvF f S H) (Key.mvM f m S H) (Key.mvE f S H)) ∧ Below w.heap.size w w' := by
  unfold Key.mvF Key.mvM Key.mvE
  cases hf : Key.okF f
  · exact move_no1 f m S H w hf
  · obtain ⟨h0, h7⟩ := (Key.okF_iff f).1 hf
    by_cases hr : -70 ≤ S ∧ S ≤ 70 ∧ -120 ≤ H ∧ H ≤ 120
    · obtain ⟨s0, s1, g0, g1⟩ := hr
      rw [decide_eq_true ⟨s0, s1, g0, g1⟩]
      cases hg : Key.okF (f + (7 * H - 12 * S))
      · exact move_no4 f m S H w h0 h7 s0 s1 g0 g1 hg
      · obtain ⟨k0, k7⟩ := (Key.okF_iff _).1 hg
        exact move_yes f m S H w h0 h7 s0 s1 g0 g1 k0 k7
    · rw [decide_eq_false hr]
      by_cases hs : -70 ≤ S ∧ S ≤ 70
      · exact move_no3 f m S H w h0 h7 hs.1 hs.2 (fun h => hr ⟨hs.1, hs.2, h.1, h.2⟩)
      · exact move_no2 f m S H w h0 h7 hs
end Go.Proofs.YtahcbgngdpjhkaaDoor
