/-
  The contract of key.Spell.
-/
import Derived.Test.YtahcbgngdpjhkaaDoorKeyH
namespace Go.Proofs.YtahcbgngdpjhkaaDoor
open Go.RowKit

set_option maxRecDepth 100000 in
set_option maxHeartbeats 4000000 in
theorem spell_no1 (f : Int) (m : Bool) (n : Int) (w : World) (hR : Ready w) (h : Key.okF f = false) :
    Calls Tryd.prog 29 #[ky f m, .int .i64 n] w fun e w' => e = .returned (pv 0 0 0 30) ∧ Below w.heap.size w w' := by
  have hB0 : Below w.heap.size w w := Below.refl _ _
  go_enter Tryd.func29, Tryd.ntmps29
  go_wp2_with fail
  have hR' := hR.below ((hB0.alloc hB0.size (.cells #[.int .i64 f, .bool m] 23)).alloc (hB0.alloc hB0.size (.cells #[.int .i64 f, .bool m] 23)).size (.cells #[.int .i64 0, .int .i64 0, .int .i64 0] 42))
  refine (kright_no m _ h).mono ?_
  rintro e w1 ⟨rfl, hb1⟩
  clear hR'
  have hs1 : Below w.heap.size w w1 := Below.trans (by repeat (first | exact Below.refl _ _ | refine Below.alloc ?_ (by simp <;> omega) _)) (hb1.mono (by simp <;> omega))
  have c_k_0 : w1.cell? ⟨w.heap.size, 0, none⟩ = some (.int .i64 f) := (hb1.cell (by simp <;> omega)).trans (by go_simp)
  have c_k_1 : w1.cell? ⟨w.heap.size, 1, none⟩ = some (.bool m) := (hb1.cell (by simp <;> omega)).trans (by go_simp)
  have c_r_0 : w1.cell? ⟨w.heap.size + 1, 0, none⟩ = some (.int .i64 0) := (hb1.cell (by simp <;> omega)).trans (by go_simp)
  have f_r_0 : w1.frozen? ⟨w.heap.size + 1, 0, none⟩ = false := (hb1.frozen (by simp <;> omega)).trans (by go_simp)
  have c_r_1 : w1.cell? ⟨w.heap.size + 1, 1, none⟩ = some (.int .i64 0) := (hb1.cell (by simp <;> omega)).trans (by go_simp)
  have f_r_1 : w1.frozen? ⟨w.heap.size + 1, 1, none⟩ = false := (hb1.frozen (by simp <;> omega)).trans (by go_simp)
  have c_r_2 : w1.cell? ⟨w.heap.size + 1, 2, none⟩ = some (.int .i64 0) := (hb1.cell (by simp <;> omega)).trans (by go_simp)
  have f_r_2 : w1.frozen? ⟨w.heap.size + 1, 2, none⟩ = false := (hb1.frozen (by simp <;> omega)).trans (by go_simp)
  have z_k := World.block_lt_of_cell? _ _ c_k_0
  have z_r := World.block_lt_of_cell? _ _ c_r_0
  have hB1 := below_two hB0 hs1
  clear hB0 hs1 hb1
  obtain ⟨m0, m1, m2⟩ := put3_of (x := .int .i64 (0)) (y := .int .i64 (0)) (z := .int .i64 (0)) c_r_0 c_r_1 c_r_2
  go_wp2
  exact bodyPost_ret (v := .tuple #[.agg #[.int .i64 (0), .int .i64 (0), .int .i64 (0)], .int .i64 30]) (by simp [results, Tryd.results29, go_sem, m0, m1, m2]) rfl ⟨rfl, put3_below hB1 (by omega)⟩

set_option maxRecDepth 100000 in
set_option maxHeartbeats 4000000 in
theorem spell_no2 (f : Int) (m : Bool) (n : Int) (w : World) (hR : Ready w) (h0 : -7 ≤ f) (h7 : f ≤ 7) (h : ¬ (0 ≤ n ∧ n ≤ 127)) :
    Calls Tryd.prog 29 #[ky f m, .int .i64 n] w fun e w' => e = .returned (pv 0 0 0 2) ∧ Below w.heap.size w w' := by
  have hB0 : Below w.heap.size w w := Below.refl _ _
  go_enter Tryd.func29, Tryd.ntmps29
  go_wp2_with fail
  have hR' := hR.below ((hB0.alloc hB0.size (.cells #[.int .i64 f, .bool m] 23)).alloc (hB0.alloc hB0.size (.cells #[.int .i64 f, .bool m] 23)).size (.cells #[.int .i64 0, .int .i64 0, .int .i64 0] 42))
  refine (kright_yes m _ h0 h7).mono ?_
  rintro e w1 ⟨rfl, hb1⟩
  clear hR'
  have hs1 : Below w.heap.size w w1 := Below.trans (by repeat (first | exact Below.refl _ _ | refine Below.alloc ?_ (by simp <;> omega) _)) (hb1.mono (by simp <;> omega))
  have c_k_0 : w1.cell? ⟨w.heap.size, 0, none⟩ = some (.int .i64 f) := (hb1.cell (by simp <;> omega)).trans (by go_simp)
  have c_k_1 : w1.cell? ⟨w.heap.size, 1, none⟩ = some (.bool m) := (hb1.cell (by simp <;> omega)).trans (by go_simp)
  have c_r_0 : w1.cell? ⟨w.heap.size + 1, 0, none⟩ = some (.int .i64 0) := (hb1.cell (by simp <;> omega)).trans (by go_simp)
  have f_r_0 : w1.frozen? ⟨w.heap.size + 1, 0, none⟩ = false := (hb1.frozen (by simp <;> omega)).trans (by go_simp)
  have c_r_1 : w1.cell? ⟨w.heap.size + 1, 1, none⟩ = some (.int .i64 0) := (hb1.cell (by simp <;> omega)).trans (by go_simp)
  have f_r_1 : w1.frozen? ⟨w.heap.size + 1, 1, none⟩ = false := (hb1.frozen (by simp <;> omega)).trans (by go_simp)
  have c_r_2 : w1.cell? ⟨w.heap.size + 1, 2, none⟩ = some (.int .i64 0) := (hb1.cell (by simp <;> omega)).trans (by go_simp)
  have f_r_2 : w1.frozen? ⟨w.heap.size + 1, 2, none⟩ = false := (hb1.frozen (by simp <;> omega)).trans (by go_simp)
  have z_k := World.block_lt_of_cell? _ _ c_k_0
  have z_r := World.block_lt_of_cell? _ _ c_r_0
  have hB1 := below_two hB0 hs1
  clear hB0 hs1 hb1
  go_wp2_with fail
  refine (kwithin_no h _).mono ?_
  rintro e wx ⟨rfl, rfl⟩
  obtain ⟨m0, m1, m2⟩ := put3_of (x := .int .i64 (0)) (y := .int .i64 (0)) (z := .int .i64 (0)) c_r_0 c_r_1 c_r_2
  go_wp2
  exact bodyPost_ret (v := .tuple #[.agg #[.int .i64 (0), .int .i64 (0), .int .i64 (0)], .int .i64 2]) (by simp [results, Tryd.results29, go_sem, m0, m1, m2]) rfl ⟨rfl, put3_below hB1 (by omega)⟩

set_option maxRecDepth 100000 in
set_option maxHeartbeats 4000000 in
theorem spell_no3 (f : Int) (m : Bool) (n : Int) (w : World) (hR : Ready w) (h0 : -7 ≤ f) (h7 : f ≤ 7) (n0 : 0 ≤ n) (n1 : n ≤ 127) (p : Int) (HP : Hid (Key.cls f n = some p)) (x y o q : Int) (HX : Hid (Key.st p = x)) (HY : Hid (Key.al p = y)) (HO : Hid ((n - Key.nm p).tdiv 12 = o)) (hq : IntKind.i64.wrap (4 + o) = q) (h : Pit.right x y q = false) :
    Calls Tryd.prog 29 #[ky f m, .int .i64 n] w fun e w' => e = .returned (pv 0 0 0 20) ∧ Below w.heap.size w w' := by
  have HC : Hid (∀ w, Ready w → Calls Tryd.prog 42 #[ky f m, .int .i64 n] w fun e w' => e = .returned (.tuple #[pt x y 4, .int .i64 o]) ∧ Below w.heap.size w w') := Lib.hid (fun w hR => by have := class_any f m n w hR h0 h7 n0 n1 p HP; rw [HX.out, HY.out, HO.out] at this; exact this)
  have hB0 : Below w.heap.size w w := Below.refl _ _
  go_enter Tryd.func29, Tryd.ntmps29
  go_wp2_with fail
  have hR' := hR.below ((hB0.alloc hB0.size (.cells #[.int .i64 f, .bool m] 23)).alloc (hB0.alloc hB0.size (.cells #[.int .i64 f, .bool m] 23)).size (.cells #[.int .i64 0, .int .i64 0, .int .i64 0] 42))
  refine (kright_yes m _ h0 h7).mono ?_
  rintro e w1 ⟨rfl, hb1⟩
  clear hR'
  have hs1 : Below w.heap.size w w1 := Below.trans (by repeat (first | exact Below.refl _ _ | refine Below.alloc ?_ (by simp <;> omega) _)) (hb1.mono (by simp <;> omega))
  have c_k_0 : w1.cell? ⟨w.heap.size, 0, none⟩ = some (.int .i64 f) := (hb1.cell (by simp <;> omega)).trans (by go_simp)
  have c_k_1 : w1.cell? ⟨w.heap.size, 1, none⟩ = some (.bool m) := (hb1.cell (by simp <;> omega)).trans (by go_simp)
  have c_r_0 : w1.cell? ⟨w.heap.size + 1, 0, none⟩ = some (.int .i64 0) := (hb1.cell (by simp <;> omega)).trans (by go_simp)
  have f_r_0 : w1.frozen? ⟨w.heap.size + 1, 0, none⟩ = false := (hb1.frozen (by simp <;> omega)).trans (by go_simp)
  have c_r_1 : w1.cell? ⟨w.heap.size + 1, 1, none⟩ = some (.int .i64 0) := (hb1.cell (by simp <;> omega)).trans (by go_simp)
  have f_r_1 : w1.frozen? ⟨w.heap.size + 1, 1, none⟩ = false := (hb1.frozen (by simp <;> omega)).trans (by go_simp)
  have c_r_2 : w1.cell? ⟨w.heap.size + 1, 2, none⟩ = some (.int .i64 0) := (hb1.cell (by simp <;> omega)).trans (by go_simp)
  have f_r_2 : w1.frozen? ⟨w.heap.size + 1, 2, none⟩ = false := (hb1.frozen (by simp <;> omega)).trans (by go_simp)
  have z_k := World.block_lt_of_cell? _ _ c_k_0
  have z_r := World.block_lt_of_cell? _ _ c_r_0
  have hB1 := below_two hB0 hs1
  clear hB0 hs1 hb1
  go_wp2_with fail
  refine (kwithin_yes n0 n1 _).mono ?_
  rintro e wx ⟨rfl, rfl⟩
  go_wp2_with fail
  have hR' := hR.below hB1
  refine (HC.out _ hR').mono ?_
  rintro e w2 ⟨rfl, hb2⟩
  clear hR'
  have hs2 := hb2
  replace c_k_0 := cell_later hs2 c_k_0
  replace c_k_1 := cell_later hs2 c_k_1
  replace f_r_0 := frozen_later hs2 c_r_0 f_r_0
  replace c_r_0 := cell_later hs2 c_r_0
  replace f_r_1 := frozen_later hs2 c_r_1 f_r_1
  replace c_r_1 := cell_later hs2 c_r_1
  replace f_r_2 := frozen_later hs2 c_r_2 f_r_2
  replace c_r_2 := cell_later hs2 c_r_2
  clear z_k
  have z_k := World.block_lt_of_cell? _ _ c_k_0
  clear z_r
  have z_r := World.block_lt_of_cell? _ _ c_r_0
  have hB2 := below_two hB1 hs2
  clear hB1 hs2
  go_wp2_with fail
  have hR' := hR.below (hB2.alloc hB2.size (.cells #[.int .i64 x, .int .i64 y, .int .i64 q] 42))
  refine (right_no h _ hR').mono ?_
  rintro e w3 ⟨rfl, hb3⟩
  clear hR'
  have hs3 : Below w2.heap.size w2 w3 := Below.trans (by repeat (first | exact Below.refl _ _ | refine Below.alloc ?_ (by simp <;> omega) _)) (hb3.mono (by simp <;> omega))
  replace c_k_0 := cell_later hs3 c_k_0
  replace c_k_1 := cell_later hs3 c_k_1
  replace f_r_0 := frozen_later hs3 c_r_0 f_r_0
  replace c_r_0 := cell_later hs3 c_r_0
  replace f_r_1 := frozen_later hs3 c_r_1 f_r_1
  replace c_r_1 := cell_later hs3 c_r_1
  replace f_r_2 := frozen_later hs3 c_r_2 f_r_2
  replace c_r_2 := cell_later hs3 c_r_2
  have c_p_0 : w3.cell? ⟨w2.heap.size, 0, none⟩ = some (.int .i64 x) := (hb3.cell (by simp <;> omega)).trans (by go_simp)
  have f_p_0 : w3.frozen? ⟨w2.heap.size, 0, none⟩ = false := (hb3.frozen (by simp <;> omega)).trans (by go_simp)
  have c_p_1 : w3.cell? ⟨w2.heap.size, 1, none⟩ = some (.int .i64 y) := (hb3.cell (by simp <;> omega)).trans (by go_simp)
  have f_p_1 : w3.frozen? ⟨w2.heap.size, 1, none⟩ = false := (hb3.frozen (by simp <;> omega)).trans (by go_simp)
  have c_p_2 : w3.cell? ⟨w2.heap.size, 2, none⟩ = some (.int .i64 q) := (hb3.cell (by simp <;> omega)).trans (by go_simp)
  have f_p_2 : w3.frozen? ⟨w2.heap.size, 2, none⟩ = false := (hb3.frozen (by simp <;> omega)).trans (by go_simp)
  clear z_k
  have z_k := World.block_lt_of_cell? _ _ c_k_0
  have z_p := World.block_lt_of_cell? _ _ c_p_0
  clear z_r
  have z_r := World.block_lt_of_cell? _ _ c_r_0
  have hB3 := below_two hB2 hs3
  clear hB2 hs3 hb3
  obtain ⟨m0, m1, m2⟩ := put3_of (x := .int .i64 (0)) (y := .int .i64 (0)) (z := .int .i64 (0)) c_r_0 c_r_1 c_r_2
  go_wp2
  exact bodyPost_ret (v := .tuple #[.agg #[.int .i64 (0), .int .i64 (0), .int .i64 (0)], .int .i64 20]) (by simp [results, Tryd.results29, go_sem, m0, m1, m2]) rfl ⟨rfl, put3_below hB3 (by omega)⟩

set_option maxRecDepth 100000 in
set_option maxHeartbeats 4000000 in
theorem spell_yes (f : Int) (m : Bool) (n : Int) (w : World) (hR : Ready w) (h0 : -7 ≤ f) (h7 : f ≤ 7) (n0 : 0 ≤ n) (n1 : n ≤ 127) (p : Int) (HP : Hid (Key.cls f n = some p)) (x y o q : Int) (HX : Hid (Key.st p = x)) (HY : Hid (Key.al p = y)) (HO : Hid ((n - Key.nm p).tdiv 12 = o)) (hq : IntKind.i64.wrap (4 + o) = q) (h : Pit.IsRight x y q) :
    Calls Tryd.prog 29 #[ky f m, .int .i64 n] w fun e w' => e = .returned (pv x y q 0) ∧ Below w.heap.size w w' := by
  have HC : Hid (∀ w, Ready w → Calls Tryd.prog 42 #[ky f m, .int .i64 n] w fun e w' => e = .returned (.tuple #[pt x y 4, .int .i64 o]) ∧ Below w.heap.size w w') := Lib.hid (fun w hR => by have := class_any f m n w hR h0 h7 n0 n1 p HP; rw [HX.out, HY.out, HO.out] at this; exact this)
  have hB0 : Below w.heap.size w w := Below.refl _ _
  go_enter Tryd.func29, Tryd.ntmps29
  go_wp2_with fail
  have hR' := hR.below ((hB0.alloc hB0.size (.cells #[.int .i64 f, .bool m] 23)).alloc (hB0.alloc hB0.size (.cells #[.int .i64 f, .bool m] 23)).size (.cells #[.int .i64 0, .int .i64 0, .int .i64 0] 42))
  refine (kright_yes m _ h0 h7).mono ?_
  rintro e w1 ⟨rfl, hb1⟩
  clear hR'
  have hs1 : Below w.heap.size w w1 := Below.trans (by repeat (first | exact Below.refl _ _ | refine Below.alloc ?_ (by simp <;> omega) _)) (hb1.mono (by simp <;> omega))
  have c_k_0 : w1.cell? ⟨w.heap.size, 0, none⟩ = some (.int .i64 f) := (hb1.cell (by simp <;> omega)).trans (by go_simp)
  have c_k_1 : w1.cell? ⟨w.heap.size, 1, none⟩ = some (.bool m) := (hb1.cell (by simp <;> omega)).trans (by go_simp)
  have c_r_0 : w1.cell? ⟨w.heap.size + 1, 0, none⟩ = some (.int .i64 0) := (hb1.cell (by simp <;> omega)).trans (by go_simp)
  have f_r_0 : w1.frozen? ⟨w.heap.size + 1, 0, none⟩ = false := (hb1.frozen (by simp <;> omega)).trans (by go_simp)
  have c_r_1 : w1.cell? ⟨w.heap.size + 1, 1, none⟩ = some (.int .i64 0) := (hb1.cell (by simp <;> omega)).trans (by go_simp)
  have f_r_1 : w1.frozen? ⟨w.heap.size + 1, 1, none⟩ = false := (hb1.frozen (by simp <;> omega)).trans (by go_simp)
  have c_r_2 : w1.cell? ⟨w.heap.size + 1, 2, none⟩ = some (.int .i64 0) := (hb1.cell (by simp <;> omega)).trans (by go_simp)
  have f_r_2 : w1.frozen? ⟨w.heap.size + 1, 2, none⟩ = false := (hb1.frozen (by simp <;> omega)).trans (by go_simp)
  have z_k := World.block_lt_of_cell? _ _ c_k_0
  have z_r := World.block_lt_of_cell? _ _ c_r_0
  have hB1 := below_two hB0 hs1
  clear hB0 hs1 hb1
  go_wp2_with fail
  refine (kwithin_yes n0 n1 _).mono ?_
  rintro e wx ⟨rfl, rfl⟩
  go_wp2_with fail
  have hR' := hR.below hB1
  refine (HC.out _ hR').mono ?_
  rintro e w2 ⟨rfl, hb2⟩
  clear hR'
  have hs2 := hb2
  replace c_k_0 := cell_later hs2 c_k_0
  replace c_k_1 := cell_later hs2 c_k_1
  replace f_r_0 := frozen_later hs2 c_r_0 f_r_0
  replace c_r_0 := cell_later hs2 c_r_0
  replace f_r_1 := frozen_later hs2 c_r_1 f_r_1
  replace c_r_1 := cell_later hs2 c_r_1
  replace f_r_2 := frozen_later hs2 c_r_2 f_r_2
  replace c_r_2 := cell_later hs2 c_r_2
  clear z_k
  have z_k := World.block_lt_of_cell? _ _ c_k_0
  clear z_r
  have z_r := World.block_lt_of_cell? _ _ c_r_0
  have hB2 := below_two hB1 hs2
  clear hB1 hs2
  go_wp2_with fail
  have hR' := hR.below (hB2.alloc hB2.size (.cells #[.int .i64 x, .int .i64 y, .int .i64 q] 42))
  refine (right_yes h _ hR').mono ?_
  rintro e w3 ⟨rfl, hb3⟩
  clear hR'
  have hs3 : Below w2.heap.size w2 w3 := Below.trans (by repeat (first | exact Below.refl _ _ | refine Below.alloc ?_ (by simp <;> omega) _)) (hb3.mono (by simp <;> omega))
  replace c_k_0 := cell_later hs3 c_k_0
  replace c_k_1 := cell_later hs3 c_k_1
  replace f_r_0 := frozen_later hs3 c_r_0 f_r_0
  replace c_r_0 := cell_later hs3 c_r_0
  replace f_r_1 := frozen_later hs3 c_r_1 f_r_1
  replace c_r_1 := cell_later hs3 c_r_1
  replace f_r_2 := frozen_later hs3 c_r_2 f_r_2
  replace c_r_2 := cell_later hs3 c_r_2
  have c_p_0 : w3.cell? ⟨w2.heap.size, 0, none⟩ = some (.int .i64 x) := (hb3.cell (by simp <;> omega)).trans (by go_simp)
  have f_p_0 : w3.frozen? ⟨w2.heap.size, 0, none⟩ = false := (hb3.frozen (by simp <;> omega)).trans (by go_simp)
  have c_p_1 : w3.cell? ⟨w2.heap.size, 1, none⟩ = some (.int .i64 y) := (hb3.cell (by simp <;> omega)).trans (by go_simp)
  have f_p_1 : w3.frozen? ⟨w2.heap.size, 1, none⟩ = false := (hb3.frozen (by simp <;> omega)).trans (by go_simp)
  have c_p_2 : w3.cell? ⟨w2.heap.size, 2, none⟩ = some (.int .i64 q) := (hb3.cell (by simp <;> omega)).trans (by go_simp)
  have f_p_2 : w3.frozen? ⟨w2.heap.size, 2, none⟩ = false := (hb3.frozen (by simp <;> omega)).trans (by go_simp)
  clear z_k
  have z_k := World.block_lt_of_cell? _ _ c_k_0
  have z_p := World.block_lt_of_cell? _ _ c_p_0
  clear z_r
  have z_r := World.block_lt_of_cell? _ _ c_r_0
  have hB3 := below_two hB2 hs3
  clear hB2 hs3 hb3
  obtain ⟨m0, m1, m2⟩ := put3_of (x := .int .i64 (x)) (y := .int .i64 (y)) (z := .int .i64 (q)) c_r_0 c_r_1 c_r_2
  go_wp2
  exact bodyPost_ret (v := .tuple #[.agg #[.int .i64 (x), .int .i64 (y), .int .i64 (q)], .int .i64 0]) (by simp [results, Tryd.results29, go_sem, m0, m1, m2]) rfl ⟨rfl, put3_below hB3 (by omega)⟩

theorem spell_any (f : Int) (m : Bool) (n : Int) (w : World) (hR : Ready w) :
    Calls Tryd.prog 29 #[ky f m, .int .i64 n] w fun e w' => e = .returned (pv (Key.spE f n).1 (Key.spE f n).2.1 (Key.spE f n).2.2 (Key.eSp f n)) ∧ Below w.heap.size w w' := by
  unfold Key.spE Key.eSp
  cases hf : Key.okF f
  · exact spell_no1 f m n w hR hf
  · obtain ⟨h0, h7⟩ := (Key.okF_iff f).1 hf
    by_cases hn : 0 ≤ n ∧ n ≤ 127
    · rw [decide_eq_true hn]
      obtain ⟨p, hp⟩ := Key.cls_some h0 h7 hn.1 hn.2
      have hq := Key.nm_bounds p
      have ho : -100 ≤ (n - Key.nm p).tdiv 12 ∧ (n - Key.nm p).tdiv 12 ≤ 100 := by
        have := Int.mul_tdiv_add_tmod (n - Key.nm p) 12
        have := Int.tmod_lt_of_pos (n - Key.nm p) (show (0 : Int) < 12 by decide)
        have := Int.lt_tmod_of_pos (n - Key.nm p) (show (0 : Int) < 12 by decide)
        omega
      have e : Key.spell f n = Key.spOf n p := by unfold Key.spell; rw [hp]; rfl
      rw [e]
      unfold Key.spOf
      cases hr : Pit.right (Key.st p) (Key.al p) (4 + (n - Key.nm p).tdiv 12)
      · exact spell_no3 f m n w hR h0 h7 hn.1 hn.2 p (Lib.hid hp) _ _ _ _ (Lib.hid rfl) (Lib.hid rfl) (Lib.hid rfl) (IntWalk.i64_in _ (by omega)) hr
      · exact spell_yes f m n w hR h0 h7 hn.1 hn.2 p (Lib.hid hp) _ _ _ _ (Lib.hid rfl) (Lib.hid rfl) (Lib.hid rfl) (IntWalk.i64_in _ (by omega)) ((Pit.right_iff _ _ _).1 hr)
    · rw [decide_eq_false hn]
      exact spell_no2 f m n w hR h0 h7 hn
end Go.Proofs.YtahcbgngdpjhkaaDoor
