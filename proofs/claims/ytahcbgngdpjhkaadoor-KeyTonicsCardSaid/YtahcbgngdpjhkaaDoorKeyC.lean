/-
  The contracts of package key's within, divide, fifth, tonic, Right, Move.
-/
import Derived.Test.YtahcbgngdpjhkaaDoorKeyB
namespace Go.Proofs.YtahcbgngdpjhkaaDoor
open Go.RowKit

theorem kwithin_any (n l m : Int) (w : World) :
    Calls Tryd.prog 40 #[.int .i64 n, .int .i64 l, .int .i64 m] w fun e w' => e = .returned (.bool (decide (l ≤ n ∧ n ≤ m))) ∧ w = w' := by
  by_cases h1 : l ≤ n
  · by_cases h2 : n ≤ m
    · rw [decide_eq_true (⟨h1, h2⟩ : l ≤ n ∧ n ≤ m)]
      go_enter Tryd.func40, Tryd.ntmps40
      go_wp2
      go_ret
      exact ⟨rfl, rfl⟩
    · rw [decide_eq_false (fun h : l ≤ n ∧ n ≤ m => h2 h.2)]
      go_enter Tryd.func40, Tryd.ntmps40
      go_wp2
      go_ret
      exact ⟨rfl, rfl⟩
  · rw [decide_eq_false (fun h : l ≤ n ∧ n ≤ m => h1 h.1)]
    go_enter Tryd.func40, Tryd.ntmps40
    go_wp2
    go_ret
    exact ⟨rfl, rfl⟩
theorem kwithin_yes {n l m : Int} (h1 : l ≤ n) (h2 : n ≤ m) (w : World) :
    Calls Tryd.prog 40 #[.int .i64 n, .int .i64 l, .int .i64 m] w fun e w' => e = .returned (.bool true) ∧ w = w' := by
  have := kwithin_any n l m w
  rw [decide_eq_true (⟨h1, h2⟩ : l ≤ n ∧ n ≤ m)] at this
  exact this
theorem kwithin_no {n l m : Int} (h : ¬ (l ≤ n ∧ n ≤ m)) (w : World) :
    Calls Tryd.prog 40 #[.int .i64 n, .int .i64 l, .int .i64 m] w fun e w' => e = .returned (.bool false) ∧ w = w' := by
  have := kwithin_any n l m w
  rw [decide_eq_false h] at this
  exact this

set_option maxRecDepth 100000 in
set_option maxHeartbeats 1000000 in
theorem divide_pos (a : Int) (w : World) (h0 : -1000 ≤ a) (h1 : a ≤ 1000) (hr : 0 ≤ a.tmod 7) :
    Calls Tryd.prog 61 #[.int .i64 a, .int .i64 7] w fun e w' => e = .returned (.tuple #[.int .i64 (a / 7), .int .i64 (a % 7)]) ∧ Below w.heap.size w w' := by
  have E1 : Hid (a.tdiv 7 = a / 7) := Lib.hid (by have := Int.mul_tdiv_add_tmod a 7; have := Int.tmod_lt_of_pos a (show (0 : Int) < 7 by decide); have := Int.lt_tmod_of_pos a (show (0 : Int) < 7 by decide); omega)
  have E2 : Hid (a.tmod 7 = a % 7) := Lib.hid (by have := Int.mul_tdiv_add_tmod a 7; have := Int.tmod_lt_of_pos a (show (0 : Int) < 7 by decide); have := Int.lt_tmod_of_pos a (show (0 : Int) < 7 by decide); omega)
  go_enter Tryd.func61, Tryd.ntmps61
  go_wp2_with fail
  go_region
  all_goals go_wp2_with fail
  all_goals (try go_region)
  all_goals go_wp2_with fail
  all_goals (try go_region)
  all_goals go_wp2
  all_goals go_ret2
  all_goals exact ⟨by rw [E1.out, E2.out]; rfl, (by repeat (first | exact Below.refl _ _ | refine below_drewN ?_ _ | refine Below.drew ?_ | refine Below.setCell ?_ (by simp) _ | refine Below.alloc ?_ (by simp) _))⟩

set_option maxRecDepth 100000 in
set_option maxHeartbeats 1000000 in
theorem divide_neg (a : Int) (w : World) (h0 : -1000 ≤ a) (h1 : a ≤ 1000) (hr : a.tmod 7 < 0) :
    Calls Tryd.prog 61 #[.int .i64 a, .int .i64 7] w fun e w' => e = .returned (.tuple #[.int .i64 (a / 7), .int .i64 (a % 7)]) ∧ Below w.heap.size w w' := by
  have E1 : Hid (wrap64 (a.tdiv 7 - 1) = a / 7) := Lib.hid (by have := Int.mul_tdiv_add_tmod a 7; have := Int.tmod_lt_of_pos a (show (0 : Int) < 7 by decide); have := Int.lt_tmod_of_pos a (show (0 : Int) < 7 by decide); unfold wrap64; omega)
  have E2 : Hid (wrap64 (a.tmod 7 + 7) = a % 7) := Lib.hid (by have := Int.mul_tdiv_add_tmod a 7; have := Int.tmod_lt_of_pos a (show (0 : Int) < 7 by decide); have := Int.lt_tmod_of_pos a (show (0 : Int) < 7 by decide); unfold wrap64; omega)
  go_enter Tryd.func61, Tryd.ntmps61
  go_wp2_with fail
  go_region
  all_goals go_wp2_with fail
  all_goals (try go_region)
  all_goals go_wp2_with fail
  all_goals (try go_region)
  all_goals go_wp2
  all_goals go_ret2
  all_goals exact ⟨by rw [E1.out, E2.out]; rfl, (by repeat (first | exact Below.refl _ _ | refine below_drewN ?_ _ | refine Below.drew ?_ | refine Below.setCell ?_ (by simp) _ | refine Below.alloc ?_ (by simp) _))⟩

theorem divide_any (a : Int) (w : World) (h0 : -1000 ≤ a) (h1 : a ≤ 1000) :
    Calls Tryd.prog 61 #[.int .i64 a, .int .i64 7] w fun e w' => e = .returned (.tuple #[.int .i64 (a / 7), .int .i64 (a % 7)]) ∧ Below w.heap.size w w' := by
  by_cases hr : 0 ≤ a.tmod 7
  · exact divide_pos a w h0 h1 hr
  · exact divide_neg a w h0 h1 (by omega)

set_option maxRecDepth 100000 in
set_option maxHeartbeats 4000000 in
theorem fifth_any (p : Int) (w : World) (h0 : -40 ≤ p) (h1 : p ≤ 40) :
    Calls Tryd.prog 50 #[.int .i64 p] w fun e w' => e = .returned (pt (Key.st p) (Key.al p) 4) ∧ Below w.heap.size w w' := by
  have HC1 : Hid (∀ w, Calls Tryd.prog 61 #[.int .i64 (4 * p), .int .i64 7] w fun e w' => e = .returned (.tuple #[.int .i64 (4 * p / 7), .int .i64 (Key.st p)]) ∧ Below w.heap.size w w') := Lib.hid (fun w => divide_any (4 * p) w (by omega) (by omega))
  have HC2 : Hid (∀ w, Calls Tryd.prog 61 #[.int .i64 (p + 1), .int .i64 7] w fun e w' => e = .returned (.tuple #[.int .i64 (Key.al p), .int .i64 ((p + 1) % 7)]) ∧ Below w.heap.size w w') := Lib.hid (fun w => divide_any (p + 1) w (by omega) (by omega))
  generalize Key.st p = s at *
  generalize Key.al p = a at *
  have hB0 : Below w.heap.size w w := Below.refl _ _
  go_enter Tryd.func50, Tryd.ntmps50
  go_wp2_with fail
  refine (HC1.out _).mono ?_
  rintro e w1 ⟨rfl, hb1⟩
  have hs1 : Below w.heap.size w w1 := Below.trans (by repeat (first | exact Below.refl _ _ | refine Below.alloc ?_ (by simp <;> omega) _)) (hb1.mono (by simp <;> omega))
  have c_r_0 : w1.cell? ⟨w.heap.size, 0, none⟩ = some (.int .i64 0) := (hb1.cell (by simp <;> omega)).trans (by go_simp)
  have f_r_0 : w1.frozen? ⟨w.heap.size, 0, none⟩ = false := (hb1.frozen (by simp <;> omega)).trans (by go_simp)
  have c_r_1 : w1.cell? ⟨w.heap.size, 1, none⟩ = some (.int .i64 0) := (hb1.cell (by simp <;> omega)).trans (by go_simp)
  have f_r_1 : w1.frozen? ⟨w.heap.size, 1, none⟩ = false := (hb1.frozen (by simp <;> omega)).trans (by go_simp)
  have c_r_2 : w1.cell? ⟨w.heap.size, 2, none⟩ = some (.int .i64 0) := (hb1.cell (by simp <;> omega)).trans (by go_simp)
  have f_r_2 : w1.frozen? ⟨w.heap.size, 2, none⟩ = false := (hb1.frozen (by simp <;> omega)).trans (by go_simp)
  have z_r := World.block_lt_of_cell? _ _ c_r_0
  have hB1 := below_two hB0 hs1
  clear hB0 hs1 hb1
  go_wp2_with fail
  refine (HC2.out _).mono ?_
  rintro e w2 ⟨rfl, hb2⟩
  have hs2 := hb2
  replace f_r_0 := frozen_later hs2 c_r_0 f_r_0
  replace c_r_0 := cell_later hs2 c_r_0
  replace f_r_1 := frozen_later hs2 c_r_1 f_r_1
  replace c_r_1 := cell_later hs2 c_r_1
  replace f_r_2 := frozen_later hs2 c_r_2 f_r_2
  replace c_r_2 := cell_later hs2 c_r_2
  clear z_r
  have z_r := World.block_lt_of_cell? _ _ c_r_0
  have hB2 := below_two hB1 hs2
  clear hB1 hs2
  obtain ⟨m0, m1, m2⟩ := put3_of (x := .int .i64 (s)) (y := .int .i64 (a)) (z := .int .i64 (4)) c_r_0 c_r_1 c_r_2
  go_wp2
  exact bodyPost_ret (v := .agg #[.int .i64 (s), .int .i64 (a), .int .i64 (4)]) (by simp [results, Tryd.results50, go_sem, m0, m1, m2]) rfl ⟨rfl, put3_below hB2 (by omega)⟩
set_option maxRecDepth 100000 in
set_option maxHeartbeats 4000000 in
theorem kright_any (f : Int) (m : Bool) (w : World) : Calls Tryd.prog 20 #[ky f m] w fun e w' => e = .returned (.bool (Key.okF f)) ∧ Below w.heap.size w w' := by
  have HC : Hid (∀ w, Calls Tryd.prog 40 #[.int .i64 f, .int .i64 (-7), .int .i64 7] w fun e w' => e = .returned (.bool (Key.okF f)) ∧ w = w') := Lib.hid (fun w => kwithin_any f (-7) 7 w)
  generalize Key.okF f = b at *
  go_enter Tryd.func20, Tryd.ntmps20
  go_wp2_with fail
  refine (HC.out _).mono ?_
  rintro e wx ⟨rfl, rfl⟩
  go_wp2
  go_ret
  exact ⟨rfl, (by repeat (first | exact Below.refl _ _ | refine below_drewN ?_ _ | refine Below.drew ?_ | refine Below.setCell ?_ (by simp) _ | refine Below.alloc ?_ (by simp) _))⟩
theorem kright_yes {f : Int} (m : Bool) (w : World) (h0 : -7 ≤ f) (h7 : f ≤ 7) : Calls Tryd.prog 20 #[ky f m] w fun e w' => e = .returned (.bool true) ∧ Below w.heap.size w w' := by
  have h := kright_any f m w
  rw [Key.okF_true h0 h7] at h
  exact h
theorem kright_no {f : Int} (m : Bool) (w : World) (hn : Key.okF f = false) : Calls Tryd.prog 20 #[ky f m] w fun e w' => e = .returned (.bool false) ∧ Below w.heap.size w w' := by
  have h := kright_any f m w
  rw [hn] at h
  exact h

set_option maxRecDepth 100000 in
set_option maxHeartbeats 4000000 in
theorem tonic_true (f : Int) (w : World) (h0 : -7 ≤ f) (h7 : f ≤ 7) :
    Calls Tryd.prog 35 #[ky f true] w fun e w' => e = .returned (pt (Key.st (f + 3)) (Key.al (f + 3)) 4) ∧ Below w.heap.size w w' := by
  have HC : Hid (∀ w, Calls Tryd.prog 50 #[.int .i64 (f + 3)] w fun e w' => e = .returned (pt (Key.st (f + 3)) (Key.al (f + 3)) 4) ∧ Below w.heap.size w w') := Lib.hid (fun w => fifth_any (f + 3) w (by omega) (by omega))
  generalize Key.st (f + 3) = s at *
  generalize Key.al (f + 3) = a at *
  have hB0 : Below w.heap.size w w := Below.refl _ _
  go_enter Tryd.func35, Tryd.ntmps35
  go_wp2_with fail
  refine (HC.out _).mono ?_
  rintro e w1 ⟨rfl, hb1⟩
  have hs1 : Below w.heap.size w w1 := Below.trans (by repeat (first | exact Below.refl _ _ | refine Below.alloc ?_ (by simp <;> omega) _)) (hb1.mono (by simp <;> omega))
  have c_k_0 : w1.cell? ⟨w.heap.size, 0, none⟩ = some (.int .i64 f) := (hb1.cell (by simp <;> omega)).trans (by go_simp)
  have c_k_1 : w1.cell? ⟨w.heap.size, 1, none⟩ = some (.bool true) := (hb1.cell (by simp <;> omega)).trans (by go_simp)
  have c_r_0 : w1.cell? ⟨w.heap.size + 1, 0, none⟩ = some (.int .i64 0) := (hb1.cell (by simp <;> omega)).trans (by go_simp)
  have f_r_0 : w1.frozen? ⟨w.heap.size + 1, 0, none⟩ = false := (hb1.frozen (by simp <;> omega)).trans (by go_simp)
  have c_r_1 : w1.cell? ⟨w.heap.size + 1, 1, none⟩ = some (.int .i64 0) := (hb1.cell (by simp <;> omega)).trans (by go_simp)
  have f_r_1 : w1.frozen? ⟨w.heap.size + 1, 1, none⟩ = false := (hb1.frozen (by simp <;> omega)).trans (by go_simp)
  have c_r_2 : w1.cell? ⟨w.heap.size + 1, 2, none⟩ = some (.int .i64 0) := (hb1.cell (by simp <;> omega)).trans (by go_simp)
  have f_r_2 : w1.frozen? ⟨w.heap.size + 1, 2, none⟩ = false := (hb1.frozen (by simp <;> omega)).trans (by go_simp)
  have z_k := World.block_lt_of_cell? _ _ c_k_0
  have z_r := World.block_lt_of_cell? _ _ c_r_0
  have hB1 := below_two hB0 hs1
  clear hB0 hs1 hb1
  obtain ⟨m0, m1, m2⟩ := put3_of (x := .int .i64 (s)) (y := .int .i64 (a)) (z := .int .i64 (4)) c_r_0 c_r_1 c_r_2
  go_wp2
  exact bodyPost_ret (v := .agg #[.int .i64 (s), .int .i64 (a), .int .i64 (4)]) (by simp [results, Tryd.results35, go_sem, m0, m1, m2]) rfl ⟨rfl, put3_below hB1 (by omega)⟩

set_option maxRecDepth 100000 in
set_option maxHeartbeats 4000000 in
theorem tonic_false (f : Int) (w : World) (h0 : -7 ≤ f) (h7 : f ≤ 7) :
    Calls Tryd.prog 35 #[ky f false] w fun e w' => e = .returned (pt (Key.st (f)) (Key.al (f)) 4) ∧ Below w.heap.size w w' := by
  have HC : Hid (∀ w, Calls Tryd.prog 50 #[.int .i64 (f)] w fun e w' => e = .returned (pt (Key.st (f)) (Key.al (f)) 4) ∧ Below w.heap.size w w') := Lib.hid (fun w => fifth_any (f) w (by omega) (by omega))
  generalize Key.st (f) = s at *
  generalize Key.al (f) = a at *
  have hB0 : Below w.heap.size w w := Below.refl _ _
  go_enter Tryd.func35, Tryd.ntmps35
  go_wp2_with fail
  refine (HC.out _).mono ?_
  rintro e w1 ⟨rfl, hb1⟩
  have hs1 : Below w.heap.size w w1 := Below.trans (by repeat (first | exact Below.refl _ _ | refine Below.alloc ?_ (by simp <;> omega) _)) (hb1.mono (by simp <;> omega))
  have c_k_0 : w1.cell? ⟨w.heap.size, 0, none⟩ = some (.int .i64 f) := (hb1.cell (by simp <;> omega)).trans (by go_simp)
  have c_k_1 : w1.cell? ⟨w.heap.size, 1, none⟩ = some (.bool false) := (hb1.cell (by simp <;> omega)).trans (by go_simp)
  have c_r_0 : w1.cell? ⟨w.heap.size + 1, 0, none⟩ = some (.int .i64 0) := (hb1.cell (by simp <;> omega)).trans (by go_simp)
  have f_r_0 : w1.frozen? ⟨w.heap.size + 1, 0, none⟩ = false := (hb1.frozen (by simp <;> omega)).trans (by go_simp)
  have c_r_1 : w1.cell? ⟨w.heap.size + 1, 1, none⟩ = some (.int .i64 0) := (hb1.cell (by simp <;> omega)).trans (by go_simp)
  have f_r_1 : w1.frozen? ⟨w.heap.size + 1, 1, none⟩ = false := (hb1.frozen (by simp <;> omega)).trans (by go_simp)
  have c_r_2 : w1.cell? ⟨w.heap.size + 1, 2, none⟩ = some (.int .i64 0) := (hb1.cell (by simp <;> omega)).trans (by go_simp)
  have f_r_2 : w1.frozen? ⟨w.heap.size + 1, 2, none⟩ = false := (hb1.frozen (by simp <;> omega)).trans (by go_simp)
  have z_k := World.block_lt_of_cell? _ _ c_k_0
  have z_r := World.block_lt_of_cell? _ _ c_r_0
  have hB1 := below_two hB0 hs1
  clear hB0 hs1 hb1
  obtain ⟨m0, m1, m2⟩ := put3_of (x := .int .i64 (s)) (y := .int .i64 (a)) (z := .int .i64 (4)) c_r_0 c_r_1 c_r_2
  go_wp2
  exact bodyPost_ret (v := .agg #[.int .i64 (s), .int .i64 (a), .int .i64 (4)]) (by simp [results, Tryd.results35, go_sem, m0, m1, m2]) rfl ⟨rfl, put3_below hB1 (by omega)⟩
theorem tonic_any (f : Int) (m : Bool) (w : World) (h0 : -7 ≤ f) (h7 : f ≤ 7) :
    Calls Tryd.prog 35 #[ky f m] w fun e w' => e = .returned (pt (Key.st (Key.tp f m)) (Key.al (Key.tp f m)) 4) ∧ Below w.heap.size w w' := by
  cases m
  · exact tonic_false f w h0 h7
  · exact tonic_true f w h0 h7
end Go.Proofs.YtahcbgngdpjhkaaDoor
