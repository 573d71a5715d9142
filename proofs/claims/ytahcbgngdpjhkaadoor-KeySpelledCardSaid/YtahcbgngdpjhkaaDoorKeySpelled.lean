/-
  KeySpelled holds: the law's walk.
-/
import Derived.Test.YtahcbgngdpjhkaaDoorKeyL
import Derived.Test.YtahcbgngdpjhkaaDoorKeyRow
namespace Go.Proofs.YtahcbgngdpjhkaaDoor
open Go.RowKit

set_option maxRecDepth 100000 in
set_option maxHeartbeats 4000000 in
theorem spelled_no20 (f : Int) (m : Bool) (a b : Int) (w : World) (hR : Ready w) (a0 : 0 ≤ a) (a1 : a ≤ 255) (b0 : 0 ≤ b) (b1 : b ≤ 255) (c d : Int) (hc : a % 128 = c) (hd : b % 128 = d) (H1 : Hid (∀ w, Ready w → Calls Tryd.prog 29 #[ky f m, .int .i64 c] w fun e w' => e = .returned (pv 0 0 0 20) ∧ Below w.heap.size w w')) (x y z g : Int) (H2 : Hid (∀ w, Ready w → Calls Tryd.prog 29 #[ky f m, .int .i64 d] w fun e w' => e = .returned (pv x y z g) ∧ Below w.heap.size w w')) :
    Calls Tryd.prog 11 #[ky f m, .agg #[.int .u8 a, .int .u8 b]] w fun e w' => e = .returned (.bool true) ∧ Below w.heap.size w w' := by
  have hgP := guardP
  have hgK := guardK
  have heP := eql_pt
  have heK := eql_ky
  have hnP := neq_pt
  have hnK := neq_ky
  have hsP := eqP_self
  have hsK := eqK_self
  have hB0 : Below w.heap.size w w := Below.refl _ _
  go_enter Tryd.func11, Tryd.ntmps11
  go_wp2_with fail
  have hR' := hR.below ((hB0.alloc hB0.size (.cells #[.int .i64 f, .bool m] 23)).alloc (hB0.alloc hB0.size (.cells #[.int .i64 f, .bool m] 23)).size (.cells #[.int .u8 a, .int .u8 b] 48))
  refine (awake_any _ hR'.lett).mono ?_
  rintro e w1 ⟨rfl, hb1⟩
  clear hR'
  have hs1 : Below w.heap.size w w1 := Below.trans (by repeat (first | exact Below.refl _ _ | refine Below.alloc ?_ (by simp <;> omega) _)) (hb1.mono (by simp <;> omega))
  have c_k_0 : w1.cell? ⟨w.heap.size, 0, none⟩ = some (.int .i64 f) := (hb1.cell (by simp <;> omega)).trans (by go_simp)
  have c_k_1 : w1.cell? ⟨w.heap.size, 1, none⟩ = some (.bool m) := (hb1.cell (by simp <;> omega)).trans (by go_simp)
  have c_n_0 : w1.cell? ⟨w.heap.size + 1, 0, none⟩ = some (.int .u8 a) := (hb1.cell (by simp <;> omega)).trans (by go_simp)
  have c_n_1 : w1.cell? ⟨w.heap.size + 1, 1, none⟩ = some (.int .u8 b) := (hb1.cell (by simp <;> omega)).trans (by go_simp)
  have z_k := World.block_lt_of_cell? _ _ c_k_0
  have z_n := World.block_lt_of_cell? _ _ c_n_0
  have hB1 := below_two hB0 hs1
  clear hB0 hs1 hb1
  go_wp2_with fail
  have hR' := hR.below hB1
  refine (H1.out _ hR').mono ?_
  rintro e w2 ⟨rfl, hb2⟩
  clear hR'
  have hs2 := hb2
  replace c_k_0 := cell_later hs2 c_k_0
  replace c_k_1 := cell_later hs2 c_k_1
  replace c_n_0 := cell_later hs2 c_n_0
  replace c_n_1 := cell_later hs2 c_n_1
  clear z_k
  have z_k := World.block_lt_of_cell? _ _ c_k_0
  clear z_n
  have z_n := World.block_lt_of_cell? _ _ c_n_0
  have hB2 := below_two hB1 hs2
  clear hB1 hs2
  go_wp2_with fail
  have hR' := hR.below (hB2.alloc hB2.size (.cells #[.int .i64 0, .int .i64 0, .int .i64 0] 42))
  refine (H2.out _ hR').mono ?_
  rintro e w3 ⟨rfl, hb3⟩
  clear hR'
  have hs3 : Below w2.heap.size w2 w3 := Below.trans (by repeat (first | exact Below.refl _ _ | refine Below.alloc ?_ (by simp <;> omega) _)) (hb3.mono (by simp <;> omega))
  replace c_k_0 := cell_later hs3 c_k_0
  replace c_k_1 := cell_later hs3 c_k_1
  replace c_n_0 := cell_later hs3 c_n_0
  replace c_n_1 := cell_later hs3 c_n_1
  have c_p_0 : w3.cell? ⟨w2.heap.size, 0, none⟩ = some (.int .i64 0) := (hb3.cell (by simp <;> omega)).trans (by go_simp)
  have c_p_1 : w3.cell? ⟨w2.heap.size, 1, none⟩ = some (.int .i64 0) := (hb3.cell (by simp <;> omega)).trans (by go_simp)
  have c_p_2 : w3.cell? ⟨w2.heap.size, 2, none⟩ = some (.int .i64 0) := (hb3.cell (by simp <;> omega)).trans (by go_simp)
  clear z_k
  have z_k := World.block_lt_of_cell? _ _ c_k_0
  clear z_n
  have z_n := World.block_lt_of_cell? _ _ c_n_0
  have z_p := World.block_lt_of_cell? _ _ c_p_0
  have hB3 := below_two hB2 hs3
  clear hB2 hs3 hb3
  go_wp2
  go_ret
  exact ⟨rfl, (hB3.alloc hB3.size (.cells #[.int .i64 x, .int .i64 y, .int .i64 z] 42))⟩

set_option maxRecDepth 100000 in
set_option maxHeartbeats 4000000 in
theorem spelled_no30 (f : Int) (m : Bool) (a b : Int) (w : World) (hR : Ready w) (a0 : 0 ≤ a) (a1 : a ≤ 255) (b0 : 0 ≤ b) (b1 : b ≤ 255) (c d : Int) (hc : a % 128 = c) (hd : b % 128 = d) (H1 : Hid (∀ w, Ready w → Calls Tryd.prog 29 #[ky f m, .int .i64 c] w fun e w' => e = .returned (pv 0 0 0 30) ∧ Below w.heap.size w w')) (x y z g : Int) (H2 : Hid (∀ w, Ready w → Calls Tryd.prog 29 #[ky f m, .int .i64 d] w fun e w' => e = .returned (pv x y z g) ∧ Below w.heap.size w w')) :
    Calls Tryd.prog 11 #[ky f m, .agg #[.int .u8 a, .int .u8 b]] w fun e w' => e = .returned (.bool true) ∧ Below w.heap.size w w' := by
  have hgP := guardP
  have hgK := guardK
  have heP := eql_pt
  have heK := eql_ky
  have hnP := neq_pt
  have hnK := neq_ky
  have hsP := eqP_self
  have hsK := eqK_self
  have hB0 : Below w.heap.size w w := Below.refl _ _
  go_enter Tryd.func11, Tryd.ntmps11
  go_wp2_with fail
  have hR' := hR.below ((hB0.alloc hB0.size (.cells #[.int .i64 f, .bool m] 23)).alloc (hB0.alloc hB0.size (.cells #[.int .i64 f, .bool m] 23)).size (.cells #[.int .u8 a, .int .u8 b] 48))
  refine (awake_any _ hR'.lett).mono ?_
  rintro e w1 ⟨rfl, hb1⟩
  clear hR'
  have hs1 : Below w.heap.size w w1 := Below.trans (by repeat (first | exact Below.refl _ _ | refine Below.alloc ?_ (by simp <;> omega) _)) (hb1.mono (by simp <;> omega))
  have c_k_0 : w1.cell? ⟨w.heap.size, 0, none⟩ = some (.int .i64 f) := (hb1.cell (by simp <;> omega)).trans (by go_simp)
  have c_k_1 : w1.cell? ⟨w.heap.size, 1, none⟩ = some (.bool m) := (hb1.cell (by simp <;> omega)).trans (by go_simp)
  have c_n_0 : w1.cell? ⟨w.heap.size + 1, 0, none⟩ = some (.int .u8 a) := (hb1.cell (by simp <;> omega)).trans (by go_simp)
  have c_n_1 : w1.cell? ⟨w.heap.size + 1, 1, none⟩ = some (.int .u8 b) := (hb1.cell (by simp <;> omega)).trans (by go_simp)
  have z_k := World.block_lt_of_cell? _ _ c_k_0
  have z_n := World.block_lt_of_cell? _ _ c_n_0
  have hB1 := below_two hB0 hs1
  clear hB0 hs1 hb1
  go_wp2_with fail
  have hR' := hR.below hB1
  refine (H1.out _ hR').mono ?_
  rintro e w2 ⟨rfl, hb2⟩
  clear hR'
  have hs2 := hb2
  replace c_k_0 := cell_later hs2 c_k_0
  replace c_k_1 := cell_later hs2 c_k_1
  replace c_n_0 := cell_later hs2 c_n_0
  replace c_n_1 := cell_later hs2 c_n_1
  clear z_k
  have z_k := World.block_lt_of_cell? _ _ c_k_0
  clear z_n
  have z_n := World.block_lt_of_cell? _ _ c_n_0
  have hB2 := below_two hB1 hs2
  clear hB1 hs2
  go_wp2_with fail
  have hR' := hR.below (hB2.alloc hB2.size (.cells #[.int .i64 0, .int .i64 0, .int .i64 0] 42))
  refine (H2.out _ hR').mono ?_
  rintro e w3 ⟨rfl, hb3⟩
  clear hR'
  have hs3 : Below w2.heap.size w2 w3 := Below.trans (by repeat (first | exact Below.refl _ _ | refine Below.alloc ?_ (by simp <;> omega) _)) (hb3.mono (by simp <;> omega))
  replace c_k_0 := cell_later hs3 c_k_0
  replace c_k_1 := cell_later hs3 c_k_1
  replace c_n_0 := cell_later hs3 c_n_0
  replace c_n_1 := cell_later hs3 c_n_1
  have c_p_0 : w3.cell? ⟨w2.heap.size, 0, none⟩ = some (.int .i64 0) := (hb3.cell (by simp <;> omega)).trans (by go_simp)
  have c_p_1 : w3.cell? ⟨w2.heap.size, 1, none⟩ = some (.int .i64 0) := (hb3.cell (by simp <;> omega)).trans (by go_simp)
  have c_p_2 : w3.cell? ⟨w2.heap.size, 2, none⟩ = some (.int .i64 0) := (hb3.cell (by simp <;> omega)).trans (by go_simp)
  clear z_k
  have z_k := World.block_lt_of_cell? _ _ c_k_0
  clear z_n
  have z_n := World.block_lt_of_cell? _ _ c_n_0
  have z_p := World.block_lt_of_cell? _ _ c_p_0
  have hB3 := below_two hB2 hs3
  clear hB2 hs3 hb3
  go_wp2
  go_ret
  exact ⟨rfl, (hB3.alloc hB3.size (.cells #[.int .i64 x, .int .i64 y, .int .i64 z] 42))⟩

set_option maxRecDepth 100000 in
set_option maxHeartbeats 4000000 in
theorem spelled_one (f : Int) (m : Bool) (a b : Int) (w : World) (hR : Ready w) (a0 : 0 ≤ a) (a1 : a ≤ 255) (b0 : 0 ≤ b) (b1 : b ≤ 255) (c d : Int) (hc : a % 128 = c) (hd : b % 128 = d) (x y z : Int) (H1 : Hid (∀ w, Ready w → Calls Tryd.prog 29 #[ky f m, .int .i64 c] w fun e w' => e = .returned (pv x y z 0) ∧ Below w.heap.size w w')) (H2 : Hid (∀ w, Ready w → Calls Tryd.prog 29 #[ky f m, .int .i64 d] w fun e w' => e = .returned (pv 0 0 0 20) ∧ Below w.heap.size w w')) :
    Calls Tryd.prog 11 #[ky f m, .agg #[.int .u8 a, .int .u8 b]] w fun e w' => e = .returned (.bool true) ∧ Below w.heap.size w w' := by
  have hgP := guardP
  have hgK := guardK
  have heP := eql_pt
  have heK := eql_ky
  have hnP := neq_pt
  have hnK := neq_ky
  have hsP := eqP_self
  have hsK := eqK_self
  have hB0 : Below w.heap.size w w := Below.refl _ _
  go_enter Tryd.func11, Tryd.ntmps11
  go_wp2_with fail
  have hR' := hR.below ((hB0.alloc hB0.size (.cells #[.int .i64 f, .bool m] 23)).alloc (hB0.alloc hB0.size (.cells #[.int .i64 f, .bool m] 23)).size (.cells #[.int .u8 a, .int .u8 b] 48))
  refine (awake_any _ hR'.lett).mono ?_
  rintro e w1 ⟨rfl, hb1⟩
  clear hR'
  have hs1 : Below w.heap.size w w1 := Below.trans (by repeat (first | exact Below.refl _ _ | refine Below.alloc ?_ (by simp <;> omega) _)) (hb1.mono (by simp <;> omega))
  have c_k_0 : w1.cell? ⟨w.heap.size, 0, none⟩ = some (.int .i64 f) := (hb1.cell (by simp <;> omega)).trans (by go_simp)
  have c_k_1 : w1.cell? ⟨w.heap.size, 1, none⟩ = some (.bool m) := (hb1.cell (by simp <;> omega)).trans (by go_simp)
  have c_n_0 : w1.cell? ⟨w.heap.size + 1, 0, none⟩ = some (.int .u8 a) := (hb1.cell (by simp <;> omega)).trans (by go_simp)
  have c_n_1 : w1.cell? ⟨w.heap.size + 1, 1, none⟩ = some (.int .u8 b) := (hb1.cell (by simp <;> omega)).trans (by go_simp)
  have z_k := World.block_lt_of_cell? _ _ c_k_0
  have z_n := World.block_lt_of_cell? _ _ c_n_0
  have hB1 := below_two hB0 hs1
  clear hB0 hs1 hb1
  go_wp2_with fail
  have hR' := hR.below hB1
  refine (H1.out _ hR').mono ?_
  rintro e w2 ⟨rfl, hb2⟩
  clear hR'
  have hs2 := hb2
  replace c_k_0 := cell_later hs2 c_k_0
  replace c_k_1 := cell_later hs2 c_k_1
  replace c_n_0 := cell_later hs2 c_n_0
  replace c_n_1 := cell_later hs2 c_n_1
  clear z_k
  have z_k := World.block_lt_of_cell? _ _ c_k_0
  clear z_n
  have z_n := World.block_lt_of_cell? _ _ c_n_0
  have hB2 := below_two hB1 hs2
  clear hB1 hs2
  go_wp2_with fail
  have hR' := hR.below (hB2.alloc hB2.size (.cells #[.int .i64 x, .int .i64 y, .int .i64 z] 42))
  refine (H2.out _ hR').mono ?_
  rintro e w3 ⟨rfl, hb3⟩
  clear hR'
  have hs3 : Below w2.heap.size w2 w3 := Below.trans (by repeat (first | exact Below.refl _ _ | refine Below.alloc ?_ (by simp <;> omega) _)) (hb3.mono (by simp <;> omega))
  replace c_k_0 := cell_later hs3 c_k_0
  replace c_k_1 := cell_later hs3 c_k_1
  replace c_n_0 := cell_later hs3 c_n_0
  replace c_n_1 := cell_later hs3 c_n_1
  have c_p_0 : w3.cell? ⟨w2.heap.size, 0, none⟩ = some (.int .i64 x) := (hb3.cell (by simp <;> omega)).trans (by go_simp)
  have c_p_1 : w3.cell? ⟨w2.heap.size, 1, none⟩ = some (.int .i64 y) := (hb3.cell (by simp <;> omega)).trans (by go_simp)
  have c_p_2 : w3.cell? ⟨w2.heap.size, 2, none⟩ = some (.int .i64 z) := (hb3.cell (by simp <;> omega)).trans (by go_simp)
  clear z_k
  have z_k := World.block_lt_of_cell? _ _ c_k_0
  clear z_n
  have z_n := World.block_lt_of_cell? _ _ c_n_0
  have z_p := World.block_lt_of_cell? _ _ c_p_0
  have hB3 := below_two hB2 hs3
  clear hB2 hs3 hb3
  go_wp2
  go_ret
  exact ⟨rfl, (hB3.alloc hB3.size (.cells #[.int .i64 0, .int .i64 0, .int .i64 0] 42))⟩

set_option maxRecDepth 100000 in
set_option maxHeartbeats 4000000 in
theorem spelled_same (f : Int) (m : Bool) (a b : Int) (w : World) (hR : Ready w) (a0 : 0 ≤ a) (a1 : a ≤ 255) (b0 : 0 ≤ b) (b1 : b ≤ 255) (c d : Int) (hc : a % 128 = c) (hd : b % 128 = d) (x y z t u v : Int) (H1 : Hid (∀ w, Ready w → Calls Tryd.prog 29 #[ky f m, .int .i64 c] w fun e w' => e = .returned (pv x y z 0) ∧ Below w.heap.size w w')) (H2 : Hid (∀ w, Ready w → Calls Tryd.prog 29 #[ky f m, .int .i64 d] w fun e w' => e = .returned (pv t u v 0) ∧ Below w.heap.size w w')) (hE : eqP x y z t u v = true) (hcd : (c == d) = true) (HN : Hid (∀ w, Ready w → Calls Tryd.prog 33 #[pt x y z] w fun e w' => e = .returned (.tuple #[.int .i64 c, .int .i64 0]) ∧ Below w.heap.size w w')) :
    Calls Tryd.prog 11 #[ky f m, .agg #[.int .u8 a, .int .u8 b]] w fun e w' => e = .returned (.bool true) ∧ Below w.heap.size w w' := by
  have hgP := guardP
  have hgK := guardK
  have heP := eql_pt
  have heK := eql_ky
  have hnP := neq_pt
  have hnK := neq_ky
  have hsP := eqP_self
  have hsK := eqK_self
  have hB0 : Below w.heap.size w w := Below.refl _ _
  go_enter Tryd.func11, Tryd.ntmps11
  go_wp2_with fail
  have hR' := hR.below ((hB0.alloc hB0.size (.cells #[.int .i64 f, .bool m] 23)).alloc (hB0.alloc hB0.size (.cells #[.int .i64 f, .bool m] 23)).size (.cells #[.int .u8 a, .int .u8 b] 48))
  refine (awake_any _ hR'.lett).mono ?_
  rintro e w1 ⟨rfl, hb1⟩
  clear hR'
  have hs1 : Below w.heap.size w w1 := Below.trans (by repeat (first | exact Below.refl _ _ | refine Below.alloc ?_ (by simp <;> omega) _)) (hb1.mono (by simp <;> omega))
  have c_k_0 : w1.cell? ⟨w.heap.size, 0, none⟩ = some (.int .i64 f) := (hb1.cell (by simp <;> omega)).trans (by go_simp)
  have c_k_1 : w1.cell? ⟨w.heap.size, 1, none⟩ = some (.bool m) := (hb1.cell (by simp <;> omega)).trans (by go_simp)
  have c_n_0 : w1.cell? ⟨w.heap.size + 1, 0, none⟩ = some (.int .u8 a) := (hb1.cell (by simp <;> omega)).trans (by go_simp)
  have c_n_1 : w1.cell? ⟨w.heap.size + 1, 1, none⟩ = some (.int .u8 b) := (hb1.cell (by simp <;> omega)).trans (by go_simp)
  have z_k := World.block_lt_of_cell? _ _ c_k_0
  have z_n := World.block_lt_of_cell? _ _ c_n_0
  have hB1 := below_two hB0 hs1
  clear hB0 hs1 hb1
  go_wp2_with fail
  have hR' := hR.below hB1
  refine (H1.out _ hR').mono ?_
  rintro e w2 ⟨rfl, hb2⟩
  clear hR'
  have hs2 := hb2
  replace c_k_0 := cell_later hs2 c_k_0
  replace c_k_1 := cell_later hs2 c_k_1
  replace c_n_0 := cell_later hs2 c_n_0
  replace c_n_1 := cell_later hs2 c_n_1
  clear z_k
  have z_k := World.block_lt_of_cell? _ _ c_k_0
  clear z_n
  have z_n := World.block_lt_of_cell? _ _ c_n_0
  have hB2 := below_two hB1 hs2
  clear hB1 hs2
  go_wp2_with fail
  have hR' := hR.below (hB2.alloc hB2.size (.cells #[.int .i64 x, .int .i64 y, .int .i64 z] 42))
  refine (H2.out _ hR').mono ?_
  rintro e w3 ⟨rfl, hb3⟩
  clear hR'
  have hs3 : Below w2.heap.size w2 w3 := Below.trans (by repeat (first | exact Below.refl _ _ | refine Below.alloc ?_ (by simp <;> omega) _)) (hb3.mono (by simp <;> omega))
  replace c_k_0 := cell_later hs3 c_k_0
  replace c_k_1 := cell_later hs3 c_k_1
  replace c_n_0 := cell_later hs3 c_n_0
  replace c_n_1 := cell_later hs3 c_n_1
  have c_p_0 : w3.cell? ⟨w2.heap.size, 0, none⟩ = some (.int .i64 x) := (hb3.cell (by simp <;> omega)).trans (by go_simp)
  have c_p_1 : w3.cell? ⟨w2.heap.size, 1, none⟩ = some (.int .i64 y) := (hb3.cell (by simp <;> omega)).trans (by go_simp)
  have c_p_2 : w3.cell? ⟨w2.heap.size, 2, none⟩ = some (.int .i64 z) := (hb3.cell (by simp <;> omega)).trans (by go_simp)
  clear z_k
  have z_k := World.block_lt_of_cell? _ _ c_k_0
  clear z_n
  have z_n := World.block_lt_of_cell? _ _ c_n_0
  have z_p := World.block_lt_of_cell? _ _ c_p_0
  have hB3 := below_two hB2 hs3
  clear hB2 hs3 hb3
  go_wp2_with fail
  have hR' := hR.below (hB3.alloc hB3.size (.cells #[.int .i64 t, .int .i64 u, .int .i64 v] 42))
  refine (HN.out _ hR').mono ?_
  rintro e w4 ⟨rfl, hb4⟩
  clear hR'
  have hs4 : Below w3.heap.size w3 w4 := Below.trans (by repeat (first | exact Below.refl _ _ | refine Below.alloc ?_ (by simp <;> omega) _)) (hb4.mono (by simp <;> omega))
  replace c_k_0 := cell_later hs4 c_k_0
  replace c_k_1 := cell_later hs4 c_k_1
  replace c_n_0 := cell_later hs4 c_n_0
  replace c_n_1 := cell_later hs4 c_n_1
  replace c_p_0 := cell_later hs4 c_p_0
  replace c_p_1 := cell_later hs4 c_p_1
  replace c_p_2 := cell_later hs4 c_p_2
  have c_q_0 : w4.cell? ⟨w3.heap.size, 0, none⟩ = some (.int .i64 t) := (hb4.cell (by simp <;> omega)).trans (by go_simp)
  have c_q_1 : w4.cell? ⟨w3.heap.size, 1, none⟩ = some (.int .i64 u) := (hb4.cell (by simp <;> omega)).trans (by go_simp)
  have c_q_2 : w4.cell? ⟨w3.heap.size, 2, none⟩ = some (.int .i64 v) := (hb4.cell (by simp <;> omega)).trans (by go_simp)
  clear z_k
  have z_k := World.block_lt_of_cell? _ _ c_k_0
  clear z_n
  have z_n := World.block_lt_of_cell? _ _ c_n_0
  clear z_p
  have z_p := World.block_lt_of_cell? _ _ c_p_0
  have z_q := World.block_lt_of_cell? _ _ c_q_0
  have hB4 := below_two hB3 hs4
  clear hB3 hs4 hb4
  go_wp2
  go_ret
  exact ⟨rfl, hB4⟩

set_option maxRecDepth 100000 in
set_option maxHeartbeats 4000000 in
theorem spelled_other (f : Int) (m : Bool) (a b : Int) (w : World) (hR : Ready w) (a0 : 0 ≤ a) (a1 : a ≤ 255) (b0 : 0 ≤ b) (b1 : b ≤ 255) (c d : Int) (hc : a % 128 = c) (hd : b % 128 = d) (x y z t u v : Int) (H1 : Hid (∀ w, Ready w → Calls Tryd.prog 29 #[ky f m, .int .i64 c] w fun e w' => e = .returned (pv x y z 0) ∧ Below w.heap.size w w')) (H2 : Hid (∀ w, Ready w → Calls Tryd.prog 29 #[ky f m, .int .i64 d] w fun e w' => e = .returned (pv t u v 0) ∧ Below w.heap.size w w')) (hE : eqP x y z t u v = false) (hcd : (c == d) = false) (HN : Hid (∀ w, Ready w → Calls Tryd.prog 33 #[pt x y z] w fun e w' => e = .returned (.tuple #[.int .i64 c, .int .i64 0]) ∧ Below w.heap.size w w')) :
    Calls Tryd.prog 11 #[ky f m, .agg #[.int .u8 a, .int .u8 b]] w fun e w' => e = .returned (.bool true) ∧ Below w.heap.size w w' := by
  have hgP := guardP
  have hgK := guardK
  have heP := eql_pt
  have heK := eql_ky
  have hnP := neq_pt
  have hnK := neq_ky
  have hsP := eqP_self
  have hsK := eqK_self
  have hB0 : Below w.heap.size w w := Below.refl _ _
  go_enter Tryd.func11, Tryd.ntmps11
  go_wp2_with fail
  have hR' := hR.below ((hB0.alloc hB0.size (.cells #[.int .i64 f, .bool m] 23)).alloc (hB0.alloc hB0.size (.cells #[.int .i64 f, .bool m] 23)).size (.cells #[.int .u8 a, .int .u8 b] 48))
  refine (awake_any _ hR'.lett).mono ?_
  rintro e w1 ⟨rfl, hb1⟩
  clear hR'
  have hs1 : Below w.heap.size w w1 := Below.trans (by repeat (first | exact Below.refl _ _ | refine Below.alloc ?_ (by simp <;> omega) _)) (hb1.mono (by simp <;> omega))
  have c_k_0 : w1.cell? ⟨w.heap.size, 0, none⟩ = some (.int .i64 f) := (hb1.cell (by simp <;> omega)).trans (by go_simp)
  have c_k_1 : w1.cell? ⟨w.heap.size, 1, none⟩ = some (.bool m) := (hb1.cell (by simp <;> omega)).trans (by go_simp)
  have c_n_0 : w1.cell? ⟨w.heap.size + 1, 0, none⟩ = some (.int .u8 a) := (hb1.cell (by simp <;> omega)).trans (by go_simp)
  have c_n_1 : w1.cell? ⟨w.heap.size + 1, 1, none⟩ = some (.int .u8 b) := (hb1.cell (by simp <;> omega)).trans (by go_simp)
  have z_k := World.block_lt_of_cell? _ _ c_k_0
  have z_n := World.block_lt_of_cell? _ _ c_n_0
  have hB1 := below_two hB0 hs1
  clear hB0 hs1 hb1
  go_wp2_with fail
  have hR' := hR.below hB1
  refine (H1.out _ hR').mono ?_
  rintro e w2 ⟨rfl, hb2⟩
  clear hR'
  have hs2 := hb2
  replace c_k_0 := cell_later hs2 c_k_0
  replace c_k_1 := cell_later hs2 c_k_1
  replace c_n_0 := cell_later hs2 c_n_0
  replace c_n_1 := cell_later hs2 c_n_1
  clear z_k
  have z_k := World.block_lt_of_cell? _ _ c_k_0
  clear z_n
  have z_n := World.block_lt_of_cell? _ _ c_n_0
  have hB2 := below_two hB1 hs2
  clear hB1 hs2
  go_wp2_with fail
  have hR' := hR.below (hB2.alloc hB2.size (.cells #[.int .i64 x, .int .i64 y, .int .i64 z] 42))
  refine (H2.out _ hR').mono ?_
  rintro e w3 ⟨rfl, hb3⟩
  clear hR'
  have hs3 : Below w2.heap.size w2 w3 := Below.trans (by repeat (first | exact Below.refl _ _ | refine Below.alloc ?_ (by simp <;> omega) _)) (hb3.mono (by simp <;> omega))
  replace c_k_0 := cell_later hs3 c_k_0
  replace c_k_1 := cell_later hs3 c_k_1
  replace c_n_0 := cell_later hs3 c_n_0
  replace c_n_1 := cell_later hs3 c_n_1
  have c_p_0 : w3.cell? ⟨w2.heap.size, 0, none⟩ = some (.int .i64 x) := (hb3.cell (by simp <;> omega)).trans (by go_simp)
  have c_p_1 : w3.cell? ⟨w2.heap.size, 1, none⟩ = some (.int .i64 y) := (hb3.cell (by simp <;> omega)).trans (by go_simp)
  have c_p_2 : w3.cell? ⟨w2.heap.size, 2, none⟩ = some (.int .i64 z) := (hb3.cell (by simp <;> omega)).trans (by go_simp)
  clear z_k
  have z_k := World.block_lt_of_cell? _ _ c_k_0
  clear z_n
  have z_n := World.block_lt_of_cell? _ _ c_n_0
  have z_p := World.block_lt_of_cell? _ _ c_p_0
  have hB3 := below_two hB2 hs3
  clear hB2 hs3 hb3
  go_wp2_with fail
  have hR' := hR.below (hB3.alloc hB3.size (.cells #[.int .i64 t, .int .i64 u, .int .i64 v] 42))
  refine (HN.out _ hR').mono ?_
  rintro e w4 ⟨rfl, hb4⟩
  clear hR'
  have hs4 : Below w3.heap.size w3 w4 := Below.trans (by repeat (first | exact Below.refl _ _ | refine Below.alloc ?_ (by simp <;> omega) _)) (hb4.mono (by simp <;> omega))
  replace c_k_0 := cell_later hs4 c_k_0
  replace c_k_1 := cell_later hs4 c_k_1
  replace c_n_0 := cell_later hs4 c_n_0
  replace c_n_1 := cell_later hs4 c_n_1
  replace c_p_0 := cell_later hs4 c_p_0
  replace c_p_1 := cell_later hs4 c_p_1
  replace c_p_2 := cell_later hs4 c_p_2
  have c_q_0 : w4.cell? ⟨w3.heap.size, 0, none⟩ = some (.int .i64 t) := (hb4.cell (by simp <;> omega)).trans (by go_simp)
  have c_q_1 : w4.cell? ⟨w3.heap.size, 1, none⟩ = some (.int .i64 u) := (hb4.cell (by simp <;> omega)).trans (by go_simp)
  have c_q_2 : w4.cell? ⟨w3.heap.size, 2, none⟩ = some (.int .i64 v) := (hb4.cell (by simp <;> omega)).trans (by go_simp)
  clear z_k
  have z_k := World.block_lt_of_cell? _ _ c_k_0
  clear z_n
  have z_n := World.block_lt_of_cell? _ _ c_n_0
  clear z_p
  have z_p := World.block_lt_of_cell? _ _ c_p_0
  have z_q := World.block_lt_of_cell? _ _ c_q_0
  have hB4 := below_two hB3 hs4
  clear hB3 hs4 hb4
  go_wp2
  go_ret
  exact ⟨rfl, hB4⟩

/-- A number's pitch: there is none, or it has that number. -/
theorem spell_cases (f : Int) (m : Bool) (n : Int) (n0 : 0 ≤ n) (n1 : n ≤ 127) :
    (Key.okF f = false ∧ ∀ w, Ready w → Calls Tryd.prog 29 #[ky f m, .int .i64 n] w fun e w' => e = .returned (pv 0 0 0 30) ∧ Below w.heap.size w w') ∨
    (∀ w, Ready w → Calls Tryd.prog 29 #[ky f m, .int .i64 n] w fun e w' => e = .returned (pv 0 0 0 20) ∧ Below w.heap.size w w') ∨
    (∃ x y z, Key.okF f = true ∧ Pit.IsRight x y z ∧ Pit.num x y z = n ∧ Key.spell f n = some (x, y, z) ∧ ∀ w, Ready w → Calls Tryd.prog 29 #[ky f m, .int .i64 n] w fun e w' => e = .returned (pv x y z 0) ∧ Below w.heap.size w w') := by
  have h := fun w hR => spell_any f m n w hR
  unfold Key.spE Key.eSp at h
  cases hf : Key.okF f
  · rw [hf] at h; exact .inl ⟨rfl, h⟩
  · rw [hf, decide_eq_true ⟨n0, n1⟩] at h
    obtain ⟨h0, h7⟩ := (Key.okF_iff _).1 hf
    cases hs : Key.spell f n with
    | none => rw [hs] at h; exact .inr (.inl h)
    | some p =>
      obtain ⟨x, y, z⟩ := p
      rw [hs] at h
      obtain ⟨hr, hn⟩ := Key.spell_num h0 h7 hs
      exact .inr (.inr ⟨x, y, z, rfl, hr, hn, rfl, h⟩)

theorem keySpelled_calls (f : Int) (m : Bool) (a b : Int) (_ : Pit.I64 f) (ha : 0 ≤ a ∧ a ≤ 255) (hb : 0 ≤ b ∧ b ≤ 255) (w : World) (hR : Ready w) : LawHolds 11 #[ky f m, .agg #[.int .u8 a, .int .u8 b]] w := by
  rcases spell_cases f m (a % 128) (by omega) (by omega) with ⟨_, h1⟩ | h1 | ⟨x, y, z, hf, hr, hn, hs, h1⟩
  · exact spelled_no30 f m a b w hR ha.1 ha.2 hb.1 hb.2 _ _ rfl rfl (Lib.hid h1) _ _ _ _ (Lib.hid (fun w hR => spell_any f m (b % 128) w hR))
  · exact spelled_no20 f m a b w hR ha.1 ha.2 hb.1 hb.2 _ _ rfl rfl (Lib.hid h1) _ _ _ _ (Lib.hid (fun w hR => spell_any f m (b % 128) w hR))
  · have hN : Hid (∀ w, Ready w → Calls Tryd.prog 33 #[pt x y z] w fun e w' => e = .returned (.tuple #[.int .i64 (a % 128), .int .i64 0]) ∧ Below w.heap.size w w') := Lib.hid (fun w hR => by have := numberE_yes x y z w hR hr; rw [hn] at this; exact this)
    rcases spell_cases f m (b % 128) (by omega) (by omega) with ⟨hf', _⟩ | h2 | ⟨t, u, v, _, hr2, hn2, hs2, h2⟩
    · rw [hf] at hf'; cases hf'
    · exact spelled_one f m a b w hR ha.1 ha.2 hb.1 hb.2 _ _ rfl rfl x y z (Lib.hid h1) (Lib.hid h2)
    · cases he : eqP x y z t u v with
      | true =>
        obtain ⟨rfl, rfl, rfl⟩ := (eqP_iff _ _ _ _ _ _).1 he
        exact spelled_same f m a b w hR ha.1 ha.2 hb.1 hb.2 _ _ rfl rfl x y z x y z (Lib.hid h1) (Lib.hid h2) he (by rw [beq_iff_eq, ← hn, ← hn2]) hN
      | false =>
        refine spelled_other f m a b w hR ha.1 ha.2 hb.1 hb.2 _ _ rfl rfl x y z t u v (Lib.hid h1) (Lib.hid h2) he ?_ hN
        rw [beq_eq_false_iff_ne]
        intro e
        rw [← e, hs] at hs2
        simp only [Option.some.injEq, Prod.mk.injEq] at hs2
        rw [(eqP_iff _ _ _ _ _ _).2 hs2] at he
        cases he
end Go.Proofs.YtahcbgngdpjhkaaDoor
