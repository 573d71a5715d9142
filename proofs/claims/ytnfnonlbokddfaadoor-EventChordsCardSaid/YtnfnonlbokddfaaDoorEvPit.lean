/-
  Out of layer 2: the contracts of pitch.Right, Up, Compare and of cmp.Compare; '==' on pitches.
-/
import Derived.Test.YtnfnonlbokddfaaDoorEvRat
namespace Go.Proofs.YtnfnonlbokddfaaDoor
open Go.RowKit

theorem within_any (n l m : Int) (w : World) :
    Calls Tryd.prog 117 #[.int .i64 n, .int .i64 l, .int .i64 m] w fun e w' => e = .returned (.bool (decide (l ≤ n ∧ n ≤ m))) ∧ w = w' := by
  by_cases h1 : l ≤ n
  · by_cases h2 : n ≤ m
    · rw [decide_eq_true (⟨h1, h2⟩ : l ≤ n ∧ n ≤ m)]
      go_enter Tryd.func117, Tryd.ntmps117
      go_wp2
      go_ret
      exact ⟨rfl, rfl⟩
    · rw [decide_eq_false (fun h : l ≤ n ∧ n ≤ m => h2 h.2)]
      go_enter Tryd.func117, Tryd.ntmps117
      go_wp2
      go_ret
      exact ⟨rfl, rfl⟩
  · rw [decide_eq_false (fun h : l ≤ n ∧ n ≤ m => h1 h.1)]
    go_enter Tryd.func117, Tryd.ntmps117
    go_wp2
    go_ret
    exact ⟨rfl, rfl⟩

theorem within_yes {n l m : Int} (h1 : l ≤ n) (h2 : n ≤ m) (w : World) :
    Calls Tryd.prog 117 #[.int .i64 n, .int .i64 l, .int .i64 m] w fun e w' => e = .returned (.bool true) ∧ w = w' := by
  have := within_any n l m w
  rw [decide_eq_true (⟨h1, h2⟩ : l ≤ n ∧ n ≤ m)] at this
  exact this

theorem within_no {n l m : Int} (h : ¬ (l ≤ n ∧ n ≤ m)) (w : World) :
    Calls Tryd.prog 117 #[.int .i64 n, .int .i64 l, .int .i64 m] w fun e w' => e = .returned (.bool false) ∧ w = w' := by
  have := within_any n l m w
  rw [decide_eq_false h] at this
  exact this

set_option maxRecDepth 100000 in
set_option maxHeartbeats 1000000 in
theorem natural_any (s o : Int) (w : World) (hR : Ready w) (h0 : 0 ≤ s) (h6 : s ≤ 6) (o0 : -1 ≤ o) (o9 : o ≤ 100) :
    Calls Tryd.prog 120 #[.int .i64 s, .int .i64 o] w fun e w' => e = .returned (.int .i64 (Pit.num s 0 o)) ∧ Below w.heap.size w w' := by
  have hc := hR.halfI h0 h6
  have hv : -20 ≤ Pit.hv s ∧ Pit.hv s ≤ 20 := by rcases Pit.hv_cases s with ⟨_, e⟩ | ⟨_, e⟩ <;> omega
  have HN : Hid (Pit.num s 0 o = 12 * (o + 1) + Pit.hv s) := Lib.hid (by rw [Pit.num_eq]; omega)
  generalize Pit.hv s = v at *
  generalize Pit.num s 0 o = N at *
  clear hR
  go_enter Tryd.func120, Tryd.ntmps120
  go_wp2
  go_ret
  exact ⟨ret_int HN.out.symm, (by repeat (first | exact Below.refl _ _ | refine below_drewN ?_ _ | refine Below.drew ?_ | refine Below.setCell ?_ (by simp) _ | refine Below.alloc ?_ (by simp) _))⟩

set_option maxRecDepth 100000 in
set_option maxHeartbeats 1000000 in
theorem line_any (s a o : Int) (w : World) (h : Pit.IsRight s a o) :
    Calls Tryd.prog 118 #[pt s a o] w fun e w' => e = .returned (.int .i64 (Pit.lin s o)) ∧ Below w.heap.size w w' := by
  obtain ⟨h0, h1, h2, h3, h4, h5, -⟩ := h.all
  have HN : Hid (Pit.lin s o = 7 * o + s) := Lib.hid rfl
  generalize Pit.lin s o = N at *
  clear h
  go_enter Tryd.func118, Tryd.ntmps118
  go_wp2
  go_ret
  exact ⟨ret_int HN.out.symm, (by repeat (first | exact Below.refl _ _ | refine below_drewN ?_ _ | refine Below.drew ?_ | refine Below.setCell ?_ (by simp) _ | refine Below.alloc ?_ (by simp) _))⟩

set_option maxRecDepth 100000 in
set_option maxHeartbeats 4000000 in
theorem number_any (s a o : Int) (w : World) (hR : Ready w) (h0 : 0 ≤ s) (h6 : s ≤ 6) (a0 : -2 ≤ a) (a2 : a ≤ 2) (o0 : -1 ≤ o) (o9 : o ≤ 9) :
    Calls Tryd.prog 119 #[pt s a o] w fun e w' => e = .returned (.int .i64 (Pit.num s a o)) ∧ Below w.heap.size w w' := by
  have HN : Hid (Pit.num s 0 o + a = Pit.num s a o) := Lib.hid (by simp only [Pit.num_eq]; omega)
  have hv : -20 ≤ Pit.hv s ∧ Pit.hv s ≤ 20 := by rcases Pit.hv_cases s with ⟨_, e⟩ | ⟨_, e⟩ <;> omega
  have hn : -200 ≤ Pit.num s 0 o ∧ Pit.num s 0 o ≤ 200 := by simp only [Pit.num_eq]; omega
  have hC : ∀ w : World, Ready w → Calls Tryd.prog 120 #[.int .i64 s, .int .i64 o] w fun e w' => e = .returned (.int .i64 (Pit.num s 0 o)) ∧ Below w.heap.size w w' := fun w hR => natural_any s o w hR h0 h6 o0 (by omega)
  clear hv
  generalize Pit.num s 0 o = M at *
  generalize Pit.num s a o = N at *
  have HC := Lib.hid hC
  clear hC
  have hB0 : Below w.heap.size w w := Below.refl _ _
  go_enter Tryd.func119, Tryd.ntmps119
  go_wp2_with fail
  have hs1 : Below w.heap.size w (w.alloc (.cells #[.int .i64 s, .int .i64 a, .int .i64 o] 57)) := by repeat (first | exact Below.refl _ _ | refine Below.alloc ?_ (by simp <;> omega) _)
  have c_p_0 : (w.alloc (.cells #[.int .i64 s, .int .i64 a, .int .i64 o] 57)).cell? ⟨w.heap.size, 0, none⟩ = some (.int .i64 s) := by go_simp
  have c_p_1 : (w.alloc (.cells #[.int .i64 s, .int .i64 a, .int .i64 o] 57)).cell? ⟨w.heap.size, 1, none⟩ = some (.int .i64 a) := by go_simp
  have c_p_2 : (w.alloc (.cells #[.int .i64 s, .int .i64 a, .int .i64 o] 57)).cell? ⟨w.heap.size, 2, none⟩ = some (.int .i64 o) := by go_simp
  have hB1 := below_two hB0 hs1
  clear hB0 hs1
  generalize (w.alloc (.cells #[.int .i64 s, .int .i64 a, .int .i64 o] 57)) = w1 at *
  have z_p := World.block_lt_of_cell? _ _ c_p_0
  go_region_held3 (fun w' => w'.cell? ⟨w.heap.size, 0, none⟩ = some (.int .i64 s) ∧ w'.cell? ⟨w.heap.size, 1, none⟩ = some (.int .i64 a) ∧ w'.cell? ⟨w.heap.size, 2, none⟩ = some (.int .i64 o) ∧ Below w.heap.size w w')
    (((try go_split_ands); refine ⟨?_, ?_, ?_, ?_⟩ <;> first | with_reducible assumption | (with_reducible refine cell_later hq ?_; with_reducible assumption) | (with_reducible refine below_two ?_ hq; with_reducible assumption) | with_reducible exact cell_drew c_p_0 | with_reducible exact cell_drew c_p_1 | with_reducible exact cell_drew c_p_2 | with_reducible exact hB1.drew))
    (first
      | (go_at_call 120; (try go_split_ands); refine (HC.out _ (hR.below ?_)).mono ?_; assumption; rintro e w2 ⟨rfl, hq⟩))
  rename_i hS
  clear c_p_0 c_p_1 c_p_2 hB1 z_p
  obtain ⟨c_p_0, c_p_1, c_p_2, hB2⟩ := hS
  have z_p := World.block_lt_of_cell? _ _ c_p_0
  go_wp2
  go_ret
  exact ⟨ret_int ((IntWalk.i64_in _ (by omega)).trans HN.out), hB2⟩

set_option maxRecDepth 100000 in
set_option maxHeartbeats 4000000 in
theorem right_1 (s a o : Int) (w : World)  (h : ¬ (0 ≤ s ∧ s ≤ 6)) :
    Calls Tryd.prog 113 #[pt s a o] w fun e w' => e = .returned (.bool false) ∧ Below w.heap.size w w' := by
  have hB0 : Below w.heap.size w w := Below.refl _ _
  go_enter Tryd.func113, Tryd.ntmps113
  go_wp2_with fail
  refine (within_no h _).mono ?_
  rintro e wx ⟨rfl, rfl⟩
  go_wp2
  go_ret
  exact ⟨rfl, (hB0.alloc hB0.size (.cells #[.int .i64 s, .int .i64 a, .int .i64 o] 57))⟩

set_option maxRecDepth 100000 in
set_option maxHeartbeats 4000000 in
theorem right_2 (s a o : Int) (w : World)  (h0 : 0 ≤ s) (h6 : s ≤ 6) (h : ¬ (-2 ≤ a ∧ a ≤ 2)) :
    Calls Tryd.prog 113 #[pt s a o] w fun e w' => e = .returned (.bool false) ∧ Below w.heap.size w w' := by
  have hB0 : Below w.heap.size w w := Below.refl _ _
  go_enter Tryd.func113, Tryd.ntmps113
  go_wp2_with fail
  refine (within_yes h0 h6 _).mono ?_
  rintro e wx ⟨rfl, rfl⟩
  go_wp2_with fail
  refine (within_no h _).mono ?_
  rintro e wx ⟨rfl, rfl⟩
  go_wp2
  go_ret
  exact ⟨rfl, (hB0.alloc hB0.size (.cells #[.int .i64 s, .int .i64 a, .int .i64 o] 57))⟩

set_option maxRecDepth 100000 in
set_option maxHeartbeats 4000000 in
theorem right_3 (s a o : Int) (w : World)  (h0 : 0 ≤ s) (h6 : s ≤ 6)(a0 : -2 ≤ a) (a2 : a ≤ 2) (h : ¬ (-1 ≤ o ∧ o ≤ 9)) :
    Calls Tryd.prog 113 #[pt s a o] w fun e w' => e = .returned (.bool false) ∧ Below w.heap.size w w' := by
  have hB0 : Below w.heap.size w w := Below.refl _ _
  go_enter Tryd.func113, Tryd.ntmps113
  go_wp2_with fail
  refine (within_yes h0 h6 _).mono ?_
  rintro e wx ⟨rfl, rfl⟩
  go_wp2_with fail
  refine (within_yes a0 a2 _).mono ?_
  rintro e wx ⟨rfl, rfl⟩
  go_wp2_with fail
  refine (within_no h _).mono ?_
  rintro e wx ⟨rfl, rfl⟩
  go_wp2
  go_ret
  exact ⟨rfl, (hB0.alloc hB0.size (.cells #[.int .i64 s, .int .i64 a, .int .i64 o] 57))⟩

set_option maxRecDepth 100000 in
set_option maxHeartbeats 4000000 in
theorem right_4 (s a o : Int) (w : World) (hR : Ready w) (h0 : 0 ≤ s) (h6 : s ≤ 6)(a0 : -2 ≤ a) (a2 : a ≤ 2)(o0 : -1 ≤ o) (o9 : o ≤ 9) (h : ¬ (0 ≤ Pit.num s a o ∧ Pit.num s a o ≤ 127)) :
    Calls Tryd.prog 113 #[pt s a o] w fun e w' => e = .returned (.bool false) ∧ Below w.heap.size w w' := by
  have hB0 : Below w.heap.size w w := Below.refl _ _
  go_enter Tryd.func113, Tryd.ntmps113
  go_wp2_with fail
  refine (within_yes h0 h6 _).mono ?_
  rintro e wx ⟨rfl, rfl⟩
  go_wp2_with fail
  refine (within_yes a0 a2 _).mono ?_
  rintro e wx ⟨rfl, rfl⟩
  go_wp2_with fail
  refine (within_yes o0 o9 _).mono ?_
  rintro e wx ⟨rfl, rfl⟩
  go_wp2_with fail
  have hR' := hR.below (hB0.alloc hB0.size (.cells #[.int .i64 s, .int .i64 a, .int .i64 o] 57))
  refine (number_any _ _ _ _ hR' h0 h6 a0 a2 o0 o9).mono ?_
  rintro e w1 ⟨rfl, hb1⟩
  clear hR'
  have hs1 : Below w.heap.size w w1 := Below.trans (by repeat (first | exact Below.refl _ _ | refine Below.alloc ?_ (by simp <;> omega) _)) (hb1.mono (by simp <;> omega))
  have c_p_0 : w1.cell? ⟨w.heap.size, 0, none⟩ = some (.int .i64 s) := (hb1.cell (by simp <;> omega)).trans (by go_simp)
  have c_p_1 : w1.cell? ⟨w.heap.size, 1, none⟩ = some (.int .i64 a) := (hb1.cell (by simp <;> omega)).trans (by go_simp)
  have c_p_2 : w1.cell? ⟨w.heap.size, 2, none⟩ = some (.int .i64 o) := (hb1.cell (by simp <;> omega)).trans (by go_simp)
  have z_p := World.block_lt_of_cell? _ _ c_p_0
  have hB1 := below_two hB0 hs1
  clear hB0 hs1 hb1
  go_wp2_with fail
  refine (within_no h _).mono ?_
  rintro e wx ⟨rfl, rfl⟩
  go_wp2
  go_ret
  exact ⟨rfl, hB1⟩

set_option maxRecDepth 100000 in
set_option maxHeartbeats 4000000 in
theorem right_5 (s a o : Int) (w : World) (hR : Ready w) (h0 : 0 ≤ s) (h6 : s ≤ 6)(a0 : -2 ≤ a) (a2 : a ≤ 2)(o0 : -1 ≤ o) (o9 : o ≤ 9) (n0 : 0 ≤ Pit.num s a o) (nM : Pit.num s a o ≤ 127) :
    Calls Tryd.prog 113 #[pt s a o] w fun e w' => e = .returned (.bool true) ∧ Below w.heap.size w w' := by
  have hB0 : Below w.heap.size w w := Below.refl _ _
  go_enter Tryd.func113, Tryd.ntmps113
  go_wp2_with fail
  refine (within_yes h0 h6 _).mono ?_
  rintro e wx ⟨rfl, rfl⟩
  go_wp2_with fail
  refine (within_yes a0 a2 _).mono ?_
  rintro e wx ⟨rfl, rfl⟩
  go_wp2_with fail
  refine (within_yes o0 o9 _).mono ?_
  rintro e wx ⟨rfl, rfl⟩
  go_wp2_with fail
  have hR' := hR.below (hB0.alloc hB0.size (.cells #[.int .i64 s, .int .i64 a, .int .i64 o] 57))
  refine (number_any _ _ _ _ hR' h0 h6 a0 a2 o0 o9).mono ?_
  rintro e w1 ⟨rfl, hb1⟩
  clear hR'
  have hs1 : Below w.heap.size w w1 := Below.trans (by repeat (first | exact Below.refl _ _ | refine Below.alloc ?_ (by simp <;> omega) _)) (hb1.mono (by simp <;> omega))
  have c_p_0 : w1.cell? ⟨w.heap.size, 0, none⟩ = some (.int .i64 s) := (hb1.cell (by simp <;> omega)).trans (by go_simp)
  have c_p_1 : w1.cell? ⟨w.heap.size, 1, none⟩ = some (.int .i64 a) := (hb1.cell (by simp <;> omega)).trans (by go_simp)
  have c_p_2 : w1.cell? ⟨w.heap.size, 2, none⟩ = some (.int .i64 o) := (hb1.cell (by simp <;> omega)).trans (by go_simp)
  have z_p := World.block_lt_of_cell? _ _ c_p_0
  have hB1 := below_two hB0 hs1
  clear hB0 hs1 hb1
  go_wp2_with fail
  refine (within_yes n0 nM _).mono ?_
  rintro e wx ⟨rfl, rfl⟩
  go_wp2
  go_ret
  exact ⟨rfl, hB1⟩

theorem right_any (s a o : Int) (w : World) (hR : Ready w) :
    Calls Tryd.prog 113 #[pt s a o] w fun e w' => e = .returned (.bool (Pit.right s a o)) ∧ Below w.heap.size w w' := by
  by_cases h1 : 0 ≤ s ∧ s ≤ 6
  · by_cases h2 : -2 ≤ a ∧ a ≤ 2
    · by_cases h3 : -1 ≤ o ∧ o ≤ 9
      · by_cases h4 : 0 ≤ Pit.num s a o ∧ Pit.num s a o ≤ 127
        · rw [Pit.right_true ⟨h1.1, h1.2, h2.1, h2.2, h3.1, h3.2, h4.1, h4.2⟩]
          exact right_5 s a o w hR h1.1 h1.2 h2.1 h2.2 h3.1 h3.2 h4.1 h4.2
        · rw [Pit.right_false fun h => h4 ⟨h.n0, h.nM⟩]
          exact right_4 s a o w hR h1.1 h1.2 h2.1 h2.2 h3.1 h3.2 h4
      · rw [Pit.right_false fun h => h3 ⟨h.o0, h.o9⟩]
        exact right_3 s a o w h1.1 h1.2 h2.1 h2.2 h3
    · rw [Pit.right_false fun h => h2 ⟨h.a0, h.a2⟩]
      exact right_2 s a o w h1.1 h1.2 h2
  · rw [Pit.right_false fun h => h1 ⟨h.s0, h.s6⟩]
    exact right_1 s a o w h1

theorem right_yes {s a o : Int} (h : Pit.IsRight s a o) (w : World) (hR : Ready w) :
    Calls Tryd.prog 113 #[pt s a o] w fun e w' => e = .returned (.bool true) ∧ Below w.heap.size w w' := by
  have := right_any s a o w hR
  rw [Pit.right_true h] at this
  exact this

theorem right_no {s a o : Int} (h : Pit.right s a o = false) (w : World) (hR : Ready w) :
    Calls Tryd.prog 113 #[pt s a o] w fun e w' => e = .returned (.bool false) ∧ Below w.heap.size w w' := by
  have := right_any s a o w hR
  rw [h] at this
  exact this

theorem number_right {s a o : Int} (h : Pit.IsRight s a o) (w : World) (hR : Ready w) :
    Calls Tryd.prog 119 #[pt s a o] w fun e w' => e = .returned (.int .i64 (Pit.num s a o)) ∧ Below w.heap.size w w' :=
  number_any s a o w hR h.s0 h.s6 h.a0 h.a2 h.o0 h.o9

theorem lin_bounds {s a o : Int} (h : Pit.IsRight s a o) : -7 ≤ Pit.lin s o ∧ Pit.lin s o ≤ 69 := by
  obtain ⟨h0, h1, h2, h3, h4, h5, -⟩ := h.all
  rw [Pit.lin_eq]; omega

set_option maxRecDepth 100000 in
set_option maxHeartbeats 4000000 in
theorem up_no1 (s a o S H : Int) (w : World) (hR : Ready w) (h : Pit.right s a o = false) :
    Calls Tryd.prog 79 #[pt s a o, iv S H] w fun e w' => e = .returned (pv 0 0 0 20) ∧ Below w.heap.size w w' := by
  have hB0 : Below w.heap.size w w := Below.refl _ _
  go_enter Tryd.func79, Tryd.ntmps79
  go_wp2_with fail
  have hR' := hR.below (((hB0.alloc hB0.size (.cells #[.int .i64 s, .int .i64 a, .int .i64 o] 57)).alloc (hB0.alloc hB0.size (.cells #[.int .i64 s, .int .i64 a, .int .i64 o] 57)).size (.cells #[.int .i64 S, .int .i64 H] 30)).alloc ((hB0.alloc hB0.size (.cells #[.int .i64 s, .int .i64 a, .int .i64 o] 57)).alloc (hB0.alloc hB0.size (.cells #[.int .i64 s, .int .i64 a, .int .i64 o] 57)).size (.cells #[.int .i64 S, .int .i64 H] 30)).size (.cells #[.int .i64 0, .int .i64 0, .int .i64 0] 57))
  refine (right_no h _ hR').mono ?_
  rintro e w1 ⟨rfl, hb1⟩
  clear hR'
  have hs1 : Below w.heap.size w w1 := Below.trans (by repeat (first | exact Below.refl _ _ | refine Below.alloc ?_ (by simp <;> omega) _)) (hb1.mono (by simp <;> omega))
  have c_r_0 : w1.cell? ⟨w.heap.size + 1 + 1, 0, none⟩ = some (.int .i64 0) := (hb1.cell (by simp <;> omega)).trans (by go_simp)
  have f_r_0 : w1.frozen? ⟨w.heap.size + 1 + 1, 0, none⟩ = false := (hb1.frozen (by simp <;> omega)).trans (by go_simp)
  have c_r_1 : w1.cell? ⟨w.heap.size + 1 + 1, 1, none⟩ = some (.int .i64 0) := (hb1.cell (by simp <;> omega)).trans (by go_simp)
  have f_r_1 : w1.frozen? ⟨w.heap.size + 1 + 1, 1, none⟩ = false := (hb1.frozen (by simp <;> omega)).trans (by go_simp)
  have c_r_2 : w1.cell? ⟨w.heap.size + 1 + 1, 2, none⟩ = some (.int .i64 0) := (hb1.cell (by simp <;> omega)).trans (by go_simp)
  have f_r_2 : w1.frozen? ⟨w.heap.size + 1 + 1, 2, none⟩ = false := (hb1.frozen (by simp <;> omega)).trans (by go_simp)
  have z_r := World.block_lt_of_cell? _ _ c_r_0
  have hB1 := below_two hB0 hs1
  clear hB0 hs1 hb1
  obtain ⟨m0, m1, m2⟩ := put3_of (x := .int .i64 0) (y := .int .i64 0) (z := .int .i64 0) c_r_0 c_r_1 c_r_2
  go_wp2
  exact bodyPost_ret (v := .tuple #[.agg #[.int .i64 0, .int .i64 0, .int .i64 0], .int .i64 20]) (by simp [results, Tryd.results79, go_sem, m0, m1, m2]) rfl ⟨rfl, put3_below hB1 (by omega)⟩

set_option maxRecDepth 100000 in
set_option maxHeartbeats 4000000 in
theorem up_no2 (s a o S H : Int) (w : World) (hR : Ready w) (h : Pit.IsRight s a o) (h2 : ¬ (-127 ≤ S ∧ S ≤ 127)) :
    Calls Tryd.prog 79 #[pt s a o, iv S H] w fun e w' => e = .returned (pv 0 0 0 20) ∧ Below w.heap.size w w' := by
  have hB0 : Below w.heap.size w w := Below.refl _ _
  go_enter Tryd.func79, Tryd.ntmps79
  go_wp2_with fail
  have hR' := hR.below (((hB0.alloc hB0.size (.cells #[.int .i64 s, .int .i64 a, .int .i64 o] 57)).alloc (hB0.alloc hB0.size (.cells #[.int .i64 s, .int .i64 a, .int .i64 o] 57)).size (.cells #[.int .i64 S, .int .i64 H] 30)).alloc ((hB0.alloc hB0.size (.cells #[.int .i64 s, .int .i64 a, .int .i64 o] 57)).alloc (hB0.alloc hB0.size (.cells #[.int .i64 s, .int .i64 a, .int .i64 o] 57)).size (.cells #[.int .i64 S, .int .i64 H] 30)).size (.cells #[.int .i64 0, .int .i64 0, .int .i64 0] 57))
  refine (right_yes h _ hR').mono ?_
  rintro e w1 ⟨rfl, hb1⟩
  clear hR'
  have hs1 : Below w.heap.size w w1 := Below.trans (by repeat (first | exact Below.refl _ _ | refine Below.alloc ?_ (by simp <;> omega) _)) (hb1.mono (by simp <;> omega))
  have c_by_0 : w1.cell? ⟨w.heap.size + 1, 0, none⟩ = some (.int .i64 S) := (hb1.cell (by simp <;> omega)).trans (by go_simp)
  have c_by_1 : w1.cell? ⟨w.heap.size + 1, 1, none⟩ = some (.int .i64 H) := (hb1.cell (by simp <;> omega)).trans (by go_simp)
  have c_r_0 : w1.cell? ⟨w.heap.size + 1 + 1, 0, none⟩ = some (.int .i64 0) := (hb1.cell (by simp <;> omega)).trans (by go_simp)
  have f_r_0 : w1.frozen? ⟨w.heap.size + 1 + 1, 0, none⟩ = false := (hb1.frozen (by simp <;> omega)).trans (by go_simp)
  have c_r_1 : w1.cell? ⟨w.heap.size + 1 + 1, 1, none⟩ = some (.int .i64 0) := (hb1.cell (by simp <;> omega)).trans (by go_simp)
  have f_r_1 : w1.frozen? ⟨w.heap.size + 1 + 1, 1, none⟩ = false := (hb1.frozen (by simp <;> omega)).trans (by go_simp)
  have c_r_2 : w1.cell? ⟨w.heap.size + 1 + 1, 2, none⟩ = some (.int .i64 0) := (hb1.cell (by simp <;> omega)).trans (by go_simp)
  have f_r_2 : w1.frozen? ⟨w.heap.size + 1 + 1, 2, none⟩ = false := (hb1.frozen (by simp <;> omega)).trans (by go_simp)
  have z_by := World.block_lt_of_cell? _ _ c_by_0
  have z_r := World.block_lt_of_cell? _ _ c_r_0
  have hB1 := below_two hB0 hs1
  clear hB0 hs1 hb1
  go_wp2_with fail
  refine (within_no h2 _).mono ?_
  rintro e wx ⟨rfl, rfl⟩
  obtain ⟨m0, m1, m2⟩ := put3_of (x := .int .i64 0) (y := .int .i64 0) (z := .int .i64 0) c_r_0 c_r_1 c_r_2
  go_wp2
  exact bodyPost_ret (v := .tuple #[.agg #[.int .i64 0, .int .i64 0, .int .i64 0], .int .i64 20]) (by simp [results, Tryd.results79, go_sem, m0, m1, m2]) rfl ⟨rfl, put3_below hB1 (by omega)⟩

set_option maxRecDepth 100000 in
set_option maxHeartbeats 4000000 in
theorem up_no3 (s a o S H : Int) (w : World) (hR : Ready w) (h : Pit.IsRight s a o) (h2 : -127 ≤ S) (h3 : S ≤ 127) (h4 : ¬ (-127 ≤ H ∧ H ≤ 127)) :
    Calls Tryd.prog 79 #[pt s a o, iv S H] w fun e w' => e = .returned (pv 0 0 0 20) ∧ Below w.heap.size w w' := by
  have hB0 : Below w.heap.size w w := Below.refl _ _
  go_enter Tryd.func79, Tryd.ntmps79
  go_wp2_with fail
  have hR' := hR.below (((hB0.alloc hB0.size (.cells #[.int .i64 s, .int .i64 a, .int .i64 o] 57)).alloc (hB0.alloc hB0.size (.cells #[.int .i64 s, .int .i64 a, .int .i64 o] 57)).size (.cells #[.int .i64 S, .int .i64 H] 30)).alloc ((hB0.alloc hB0.size (.cells #[.int .i64 s, .int .i64 a, .int .i64 o] 57)).alloc (hB0.alloc hB0.size (.cells #[.int .i64 s, .int .i64 a, .int .i64 o] 57)).size (.cells #[.int .i64 S, .int .i64 H] 30)).size (.cells #[.int .i64 0, .int .i64 0, .int .i64 0] 57))
  refine (right_yes h _ hR').mono ?_
  rintro e w1 ⟨rfl, hb1⟩
  clear hR'
  have hs1 : Below w.heap.size w w1 := Below.trans (by repeat (first | exact Below.refl _ _ | refine Below.alloc ?_ (by simp <;> omega) _)) (hb1.mono (by simp <;> omega))
  have c_by_0 : w1.cell? ⟨w.heap.size + 1, 0, none⟩ = some (.int .i64 S) := (hb1.cell (by simp <;> omega)).trans (by go_simp)
  have c_by_1 : w1.cell? ⟨w.heap.size + 1, 1, none⟩ = some (.int .i64 H) := (hb1.cell (by simp <;> omega)).trans (by go_simp)
  have c_r_0 : w1.cell? ⟨w.heap.size + 1 + 1, 0, none⟩ = some (.int .i64 0) := (hb1.cell (by simp <;> omega)).trans (by go_simp)
  have f_r_0 : w1.frozen? ⟨w.heap.size + 1 + 1, 0, none⟩ = false := (hb1.frozen (by simp <;> omega)).trans (by go_simp)
  have c_r_1 : w1.cell? ⟨w.heap.size + 1 + 1, 1, none⟩ = some (.int .i64 0) := (hb1.cell (by simp <;> omega)).trans (by go_simp)
  have f_r_1 : w1.frozen? ⟨w.heap.size + 1 + 1, 1, none⟩ = false := (hb1.frozen (by simp <;> omega)).trans (by go_simp)
  have c_r_2 : w1.cell? ⟨w.heap.size + 1 + 1, 2, none⟩ = some (.int .i64 0) := (hb1.cell (by simp <;> omega)).trans (by go_simp)
  have f_r_2 : w1.frozen? ⟨w.heap.size + 1 + 1, 2, none⟩ = false := (hb1.frozen (by simp <;> omega)).trans (by go_simp)
  have z_by := World.block_lt_of_cell? _ _ c_by_0
  have z_r := World.block_lt_of_cell? _ _ c_r_0
  have hB1 := below_two hB0 hs1
  clear hB0 hs1 hb1
  go_wp2_with fail
  refine (within_yes h2 h3 _).mono ?_
  rintro e wx ⟨rfl, rfl⟩
  go_wp2_with fail
  refine (within_no h4 _).mono ?_
  rintro e wx ⟨rfl, rfl⟩
  obtain ⟨m0, m1, m2⟩ := put3_of (x := .int .i64 0) (y := .int .i64 0) (z := .int .i64 0) c_r_0 c_r_1 c_r_2
  go_wp2
  exact bodyPost_ret (v := .tuple #[.agg #[.int .i64 0, .int .i64 0, .int .i64 0], .int .i64 20]) (by simp [results, Tryd.results79, go_sem, m0, m1, m2]) rfl ⟨rfl, put3_below hB1 (by omega)⟩

set_option maxRecDepth 100000 in
set_option maxHeartbeats 4000000 in
theorem up_no4 (s a o S H : Int) (w : World) (hR : Ready w) (h : Pit.IsRight s a o) (h2 : -127 ≤ S) (h3 : S ≤ 127) (h4 : -127 ≤ H) (h5 : H ≤ 127) (L A : Int) (HL : Hid (Pit.lin s o = L)) (hA : IntKind.i64.wrap (IntKind.i64.wrap (L + S) + 7) = A) (h6 : A < 0) :
    Calls Tryd.prog 79 #[pt s a o, iv S H] w fun e w' => e = .returned (pv 0 0 0 20) ∧ Below w.heap.size w w' := by
  have hB0 : Below w.heap.size w w := Below.refl _ _
  go_enter Tryd.func79, Tryd.ntmps79
  go_wp2_with fail
  have hR' := hR.below (((hB0.alloc hB0.size (.cells #[.int .i64 s, .int .i64 a, .int .i64 o] 57)).alloc (hB0.alloc hB0.size (.cells #[.int .i64 s, .int .i64 a, .int .i64 o] 57)).size (.cells #[.int .i64 S, .int .i64 H] 30)).alloc ((hB0.alloc hB0.size (.cells #[.int .i64 s, .int .i64 a, .int .i64 o] 57)).alloc (hB0.alloc hB0.size (.cells #[.int .i64 s, .int .i64 a, .int .i64 o] 57)).size (.cells #[.int .i64 S, .int .i64 H] 30)).size (.cells #[.int .i64 0, .int .i64 0, .int .i64 0] 57))
  refine (right_yes h _ hR').mono ?_
  rintro e w1 ⟨rfl, hb1⟩
  clear hR'
  have hs1 : Below w.heap.size w w1 := Below.trans (by repeat (first | exact Below.refl _ _ | refine Below.alloc ?_ (by simp <;> omega) _)) (hb1.mono (by simp <;> omega))
  have c_p_0 : w1.cell? ⟨w.heap.size, 0, none⟩ = some (.int .i64 s) := (hb1.cell (by simp <;> omega)).trans (by go_simp)
  have c_p_1 : w1.cell? ⟨w.heap.size, 1, none⟩ = some (.int .i64 a) := (hb1.cell (by simp <;> omega)).trans (by go_simp)
  have c_p_2 : w1.cell? ⟨w.heap.size, 2, none⟩ = some (.int .i64 o) := (hb1.cell (by simp <;> omega)).trans (by go_simp)
  have c_by_0 : w1.cell? ⟨w.heap.size + 1, 0, none⟩ = some (.int .i64 S) := (hb1.cell (by simp <;> omega)).trans (by go_simp)
  have c_by_1 : w1.cell? ⟨w.heap.size + 1, 1, none⟩ = some (.int .i64 H) := (hb1.cell (by simp <;> omega)).trans (by go_simp)
  have c_r_0 : w1.cell? ⟨w.heap.size + 1 + 1, 0, none⟩ = some (.int .i64 0) := (hb1.cell (by simp <;> omega)).trans (by go_simp)
  have f_r_0 : w1.frozen? ⟨w.heap.size + 1 + 1, 0, none⟩ = false := (hb1.frozen (by simp <;> omega)).trans (by go_simp)
  have c_r_1 : w1.cell? ⟨w.heap.size + 1 + 1, 1, none⟩ = some (.int .i64 0) := (hb1.cell (by simp <;> omega)).trans (by go_simp)
  have f_r_1 : w1.frozen? ⟨w.heap.size + 1 + 1, 1, none⟩ = false := (hb1.frozen (by simp <;> omega)).trans (by go_simp)
  have c_r_2 : w1.cell? ⟨w.heap.size + 1 + 1, 2, none⟩ = some (.int .i64 0) := (hb1.cell (by simp <;> omega)).trans (by go_simp)
  have f_r_2 : w1.frozen? ⟨w.heap.size + 1 + 1, 2, none⟩ = false := (hb1.frozen (by simp <;> omega)).trans (by go_simp)
  have z_by := World.block_lt_of_cell? _ _ c_by_0
  have z_p := World.block_lt_of_cell? _ _ c_p_0
  have z_r := World.block_lt_of_cell? _ _ c_r_0
  have hB1 := below_two hB0 hs1
  clear hB0 hs1 hb1
  go_wp2_with fail
  refine (within_yes h2 h3 _).mono ?_
  rintro e wx ⟨rfl, rfl⟩
  go_wp2_with fail
  refine (within_yes h4 h5 _).mono ?_
  rintro e wx ⟨rfl, rfl⟩
  go_wp2_with fail
  go_region_held3 (fun w' => w'.cell? ⟨w.heap.size, 0, none⟩ = some (.int .i64 s) ∧ w'.cell? ⟨w.heap.size, 1, none⟩ = some (.int .i64 a) ∧ w'.cell? ⟨w.heap.size, 2, none⟩ = some (.int .i64 o) ∧ w'.cell? ⟨w.heap.size + 1, 0, none⟩ = some (.int .i64 S) ∧ w'.cell? ⟨w.heap.size + 1, 1, none⟩ = some (.int .i64 H) ∧ w'.cell? ⟨w.heap.size + 1 + 1, 0, none⟩ = some (.int .i64 0) ∧ w'.frozen? ⟨w.heap.size + 1 + 1, 0, none⟩ = false ∧ w'.cell? ⟨w.heap.size + 1 + 1, 1, none⟩ = some (.int .i64 0) ∧ w'.frozen? ⟨w.heap.size + 1 + 1, 1, none⟩ = false ∧ w'.cell? ⟨w.heap.size + 1 + 1, 2, none⟩ = some (.int .i64 0) ∧ w'.frozen? ⟨w.heap.size + 1 + 1, 2, none⟩ = false ∧ Below w.heap.size w w')
    (((try go_split_ands); refine ⟨?_, ?_, ?_, ?_, ?_, ?_, ?_, ?_, ?_, ?_, ?_, ?_⟩ <;> first | with_reducible assumption | (with_reducible refine cell_later hq ?_; with_reducible assumption) | (with_reducible refine below_two ?_ hq; with_reducible assumption) | (with_reducible refine frozen_later (v := ?_) hq ?_ ?_; rotate_left; with_reducible assumption; with_reducible assumption) | with_reducible exact cell_drew c_p_0 | with_reducible exact cell_drew c_p_1 | with_reducible exact cell_drew c_p_2 | with_reducible exact cell_drew c_by_0 | with_reducible exact cell_drew c_by_1 | with_reducible exact cell_drew c_r_0 | with_reducible exact frozen_drew f_r_0 | with_reducible exact cell_drew c_r_1 | with_reducible exact frozen_drew f_r_1 | with_reducible exact cell_drew c_r_2 | with_reducible exact frozen_drew f_r_2 | with_reducible exact hB1.drew))
    (first
      | (go_at_call 118; refine (line_any _ _ _ _ h).mono ?_; rintro e w2 ⟨rfl, hq⟩; rw [HL.out]))
  rename_i hS
  clear c_p_0 c_p_1 c_p_2 c_by_0 c_by_1 c_r_0 c_r_1 c_r_2 f_r_0 f_r_1 f_r_2 hB1 z_by z_p z_r
  obtain ⟨c_p_0, c_p_1, c_p_2, c_by_0, c_by_1, c_r_0, f_r_0, c_r_1, f_r_1, c_r_2, f_r_2, hB2⟩ := hS
  have z_by := World.block_lt_of_cell? _ _ c_by_0
  have z_p := World.block_lt_of_cell? _ _ c_p_0
  have z_r := World.block_lt_of_cell? _ _ c_r_0
  obtain ⟨m0, m1, m2⟩ := put3_of (x := .int .i64 0) (y := .int .i64 0) (z := .int .i64 0) c_r_0 c_r_1 c_r_2
  go_wp2
  exact bodyPost_ret (v := .tuple #[.agg #[.int .i64 0, .int .i64 0, .int .i64 0], .int .i64 20]) (by simp [results, Tryd.results79, go_sem, m0, m1, m2]) rfl ⟨rfl, put3_below hB2 (by omega)⟩

set_option maxRecDepth 100000 in
set_option maxHeartbeats 4000000 in
theorem up_no5 (s a o S H : Int) (w : World) (hR : Ready w) (h : Pit.IsRight s a o) (h2 : -127 ≤ S) (h3 : S ≤ 127) (h4 : -127 ≤ H) (h5 : H ≤ 127) (L A : Int) (HL : Hid (Pit.lin s o = L)) (hA : IntKind.i64.wrap (IntKind.i64.wrap (L + S) + 7) = A) (h6 : ¬ A < 0) (R O N M X : Int) (hm : A.tmod 7 = R) (hm' : A % 7 = R) (D : Int) (hd : A.tdiv 7 = D) (hd' : A / 7 = D) (hO : D + -1 = O) (r0 : 0 ≤ R) (r6 : R ≤ 6) (o0 : -1 ≤ O) (o9 : O ≤ 100) (HN : Hid (Pit.num s a o = N)) (HM : Hid (Pit.num R 0 O = M)) (hX : IntKind.i64.wrap (IntKind.i64.wrap (N + H) - M) = X) (hQ : Pit.right R X O = false) :
    Calls Tryd.prog 79 #[pt s a o, iv S H] w fun e w' => e = .returned (pv 0 0 0 20) ∧ Below w.heap.size w w' := by
  have hB0 : Below w.heap.size w w := Below.refl _ _
  go_enter Tryd.func79, Tryd.ntmps79
  go_wp2_with fail
  have hR' := hR.below (((hB0.alloc hB0.size (.cells #[.int .i64 s, .int .i64 a, .int .i64 o] 57)).alloc (hB0.alloc hB0.size (.cells #[.int .i64 s, .int .i64 a, .int .i64 o] 57)).size (.cells #[.int .i64 S, .int .i64 H] 30)).alloc ((hB0.alloc hB0.size (.cells #[.int .i64 s, .int .i64 a, .int .i64 o] 57)).alloc (hB0.alloc hB0.size (.cells #[.int .i64 s, .int .i64 a, .int .i64 o] 57)).size (.cells #[.int .i64 S, .int .i64 H] 30)).size (.cells #[.int .i64 0, .int .i64 0, .int .i64 0] 57))
  refine (right_yes h _ hR').mono ?_
  rintro e w1 ⟨rfl, hb1⟩
  clear hR'
  have hs1 : Below w.heap.size w w1 := Below.trans (by repeat (first | exact Below.refl _ _ | refine Below.alloc ?_ (by simp <;> omega) _)) (hb1.mono (by simp <;> omega))
  have c_p_0 : w1.cell? ⟨w.heap.size, 0, none⟩ = some (.int .i64 s) := (hb1.cell (by simp <;> omega)).trans (by go_simp)
  have c_p_1 : w1.cell? ⟨w.heap.size, 1, none⟩ = some (.int .i64 a) := (hb1.cell (by simp <;> omega)).trans (by go_simp)
  have c_p_2 : w1.cell? ⟨w.heap.size, 2, none⟩ = some (.int .i64 o) := (hb1.cell (by simp <;> omega)).trans (by go_simp)
  have c_by_0 : w1.cell? ⟨w.heap.size + 1, 0, none⟩ = some (.int .i64 S) := (hb1.cell (by simp <;> omega)).trans (by go_simp)
  have c_by_1 : w1.cell? ⟨w.heap.size + 1, 1, none⟩ = some (.int .i64 H) := (hb1.cell (by simp <;> omega)).trans (by go_simp)
  have c_r_0 : w1.cell? ⟨w.heap.size + 1 + 1, 0, none⟩ = some (.int .i64 0) := (hb1.cell (by simp <;> omega)).trans (by go_simp)
  have f_r_0 : w1.frozen? ⟨w.heap.size + 1 + 1, 0, none⟩ = false := (hb1.frozen (by simp <;> omega)).trans (by go_simp)
  have c_r_1 : w1.cell? ⟨w.heap.size + 1 + 1, 1, none⟩ = some (.int .i64 0) := (hb1.cell (by simp <;> omega)).trans (by go_simp)
  have f_r_1 : w1.frozen? ⟨w.heap.size + 1 + 1, 1, none⟩ = false := (hb1.frozen (by simp <;> omega)).trans (by go_simp)
  have c_r_2 : w1.cell? ⟨w.heap.size + 1 + 1, 2, none⟩ = some (.int .i64 0) := (hb1.cell (by simp <;> omega)).trans (by go_simp)
  have f_r_2 : w1.frozen? ⟨w.heap.size + 1 + 1, 2, none⟩ = false := (hb1.frozen (by simp <;> omega)).trans (by go_simp)
  have z_by := World.block_lt_of_cell? _ _ c_by_0
  have z_p := World.block_lt_of_cell? _ _ c_p_0
  have z_r := World.block_lt_of_cell? _ _ c_r_0
  have hB1 := below_two hB0 hs1
  clear hB0 hs1 hb1
  go_wp2_with fail
  refine (within_yes h2 h3 _).mono ?_
  rintro e wx ⟨rfl, rfl⟩
  go_wp2_with fail
  refine (within_yes h4 h5 _).mono ?_
  rintro e wx ⟨rfl, rfl⟩
  go_wp2_with fail
  go_region_held3 (fun w' => w'.cell? ⟨w.heap.size, 0, none⟩ = some (.int .i64 s) ∧ w'.cell? ⟨w.heap.size, 1, none⟩ = some (.int .i64 a) ∧ w'.cell? ⟨w.heap.size, 2, none⟩ = some (.int .i64 o) ∧ w'.cell? ⟨w.heap.size + 1, 0, none⟩ = some (.int .i64 S) ∧ w'.cell? ⟨w.heap.size + 1, 1, none⟩ = some (.int .i64 H) ∧ w'.cell? ⟨w.heap.size + 1 + 1, 0, none⟩ = some (.int .i64 0) ∧ w'.frozen? ⟨w.heap.size + 1 + 1, 0, none⟩ = false ∧ w'.cell? ⟨w.heap.size + 1 + 1, 1, none⟩ = some (.int .i64 0) ∧ w'.frozen? ⟨w.heap.size + 1 + 1, 1, none⟩ = false ∧ w'.cell? ⟨w.heap.size + 1 + 1, 2, none⟩ = some (.int .i64 0) ∧ w'.frozen? ⟨w.heap.size + 1 + 1, 2, none⟩ = false ∧ Below w.heap.size w w')
    (((try go_split_ands); refine ⟨?_, ?_, ?_, ?_, ?_, ?_, ?_, ?_, ?_, ?_, ?_, ?_⟩ <;> first | with_reducible assumption | (with_reducible refine cell_later hq ?_; with_reducible assumption) | (with_reducible refine below_two ?_ hq; with_reducible assumption) | (with_reducible refine frozen_later (v := ?_) hq ?_ ?_; rotate_left; with_reducible assumption; with_reducible assumption) | with_reducible exact cell_drew c_p_0 | with_reducible exact cell_drew c_p_1 | with_reducible exact cell_drew c_p_2 | with_reducible exact cell_drew c_by_0 | with_reducible exact cell_drew c_by_1 | with_reducible exact cell_drew c_r_0 | with_reducible exact frozen_drew f_r_0 | with_reducible exact cell_drew c_r_1 | with_reducible exact frozen_drew f_r_1 | with_reducible exact cell_drew c_r_2 | with_reducible exact frozen_drew f_r_2 | with_reducible exact hB1.drew))
    (first
      | (go_at_call 118; refine (line_any _ _ _ _ h).mono ?_; rintro e w2 ⟨rfl, hq⟩; rw [HL.out]))
  rename_i hS
  clear c_p_0 c_p_1 c_p_2 c_by_0 c_by_1 c_r_0 c_r_1 c_r_2 f_r_0 f_r_1 f_r_2 hB1 z_by z_p z_r
  obtain ⟨c_p_0, c_p_1, c_p_2, c_by_0, c_by_1, c_r_0, f_r_0, c_r_1, f_r_1, c_r_2, f_r_2, hB2⟩ := hS
  have z_by := World.block_lt_of_cell? _ _ c_by_0
  have z_p := World.block_lt_of_cell? _ _ c_p_0
  have z_r := World.block_lt_of_cell? _ _ c_r_0
  go_wp2_with fail
  have hs3 : Below w2.heap.size w2 (w2.alloc (.cells #[.int .i64 R, .int .i64 0, .int .i64 O] 57)) := by repeat (first | exact Below.refl _ _ | refine Below.alloc ?_ (by simp <;> omega) _)
  replace c_p_0 := cell_later hs3 c_p_0
  replace c_p_1 := cell_later hs3 c_p_1
  replace c_p_2 := cell_later hs3 c_p_2
  replace c_by_0 := cell_later hs3 c_by_0
  replace c_by_1 := cell_later hs3 c_by_1
  replace f_r_0 := frozen_later hs3 c_r_0 f_r_0
  replace c_r_0 := cell_later hs3 c_r_0
  replace f_r_1 := frozen_later hs3 c_r_1 f_r_1
  replace c_r_1 := cell_later hs3 c_r_1
  replace f_r_2 := frozen_later hs3 c_r_2 f_r_2
  replace c_r_2 := cell_later hs3 c_r_2
  have c_q_0 : (w2.alloc (.cells #[.int .i64 R, .int .i64 0, .int .i64 O] 57)).cell? ⟨w2.heap.size, 0, none⟩ = some (.int .i64 R) := by go_simp
  have f_q_0 : (w2.alloc (.cells #[.int .i64 R, .int .i64 0, .int .i64 O] 57)).frozen? ⟨w2.heap.size, 0, none⟩ = false := by go_simp
  have c_q_1 : (w2.alloc (.cells #[.int .i64 R, .int .i64 0, .int .i64 O] 57)).cell? ⟨w2.heap.size, 1, none⟩ = some (.int .i64 0) := by go_simp
  have f_q_1 : (w2.alloc (.cells #[.int .i64 R, .int .i64 0, .int .i64 O] 57)).frozen? ⟨w2.heap.size, 1, none⟩ = false := by go_simp
  have c_q_2 : (w2.alloc (.cells #[.int .i64 R, .int .i64 0, .int .i64 O] 57)).cell? ⟨w2.heap.size, 2, none⟩ = some (.int .i64 O) := by go_simp
  have f_q_2 : (w2.alloc (.cells #[.int .i64 R, .int .i64 0, .int .i64 O] 57)).frozen? ⟨w2.heap.size, 2, none⟩ = false := by go_simp
  have hB3 := below_two hB2 hs3
  clear hB2 hs3
  have y3_by := z_by
  have y3_p := z_p
  have y3_r := z_r
  generalize (w2.alloc (.cells #[.int .i64 R, .int .i64 0, .int .i64 O] 57)) = w3 at *
  clear z_by
  have z_by := World.block_lt_of_cell? _ _ c_by_0
  clear z_p
  have z_p := World.block_lt_of_cell? _ _ c_p_0
  have z_q := World.block_lt_of_cell? _ _ c_q_0
  clear z_r
  have z_r := World.block_lt_of_cell? _ _ c_r_0
  go_region_held3 (fun w' => w'.cell? ⟨w.heap.size, 0, none⟩ = some (.int .i64 s) ∧ w'.cell? ⟨w.heap.size, 1, none⟩ = some (.int .i64 a) ∧ w'.cell? ⟨w.heap.size, 2, none⟩ = some (.int .i64 o) ∧ w'.cell? ⟨w.heap.size + 1, 0, none⟩ = some (.int .i64 S) ∧ w'.cell? ⟨w.heap.size + 1, 1, none⟩ = some (.int .i64 H) ∧ w'.cell? ⟨w.heap.size + 1 + 1, 0, none⟩ = some (.int .i64 0) ∧ w'.frozen? ⟨w.heap.size + 1 + 1, 0, none⟩ = false ∧ w'.cell? ⟨w.heap.size + 1 + 1, 1, none⟩ = some (.int .i64 0) ∧ w'.frozen? ⟨w.heap.size + 1 + 1, 1, none⟩ = false ∧ w'.cell? ⟨w.heap.size + 1 + 1, 2, none⟩ = some (.int .i64 0) ∧ w'.frozen? ⟨w.heap.size + 1 + 1, 2, none⟩ = false ∧ w'.cell? ⟨w2.heap.size, 0, none⟩ = some (.int .i64 R) ∧ w'.frozen? ⟨w2.heap.size, 0, none⟩ = false ∧ w'.cell? ⟨w2.heap.size, 1, none⟩ = some (heldAt w' ⟨w2.heap.size, 1, none⟩) ∧ w'.frozen? ⟨w2.heap.size, 1, none⟩ = false ∧ w'.cell? ⟨w2.heap.size, 2, none⟩ = some (.int .i64 O) ∧ w'.frozen? ⟨w2.heap.size, 2, none⟩ = false ∧ Below w.heap.size w w')
    (((try go_split_ands); refine ⟨?_, ?_, ?_, ?_, ?_, ?_, ?_, ?_, ?_, ?_, ?_, ?_, ?_, ?_, ?_, ?_, ?_, ?_⟩ <;> first | with_reducible assumption | (with_reducible refine cell_later hq ?_; with_reducible assumption) | (with_reducible refine below_two ?_ hq; with_reducible assumption) | (with_reducible refine frozen_later (v := ?_) hq ?_ ?_; rotate_left; with_reducible assumption; with_reducible assumption) | (with_reducible refine held_later hq ?_; with_reducible assumption) | (with_reducible refine frozen_held hq ?_ ?_ <;> with_reducible assumption) | (with_reducible refine set_far ?_ ?_; omega; with_reducible assumption) | (with_reducible refine set_beside ?_ ?_; decide; with_reducible assumption) | (with_reducible refine set_held ?_; with_reducible assumption) | (with_reducible refine set_frozen ?_; with_reducible assumption) | (with_reducible refine set1_below ?_ ?_; with_reducible assumption; omega) | with_reducible exact cell_drew c_p_0 | with_reducible exact cell_drew c_p_1 | with_reducible exact cell_drew c_p_2 | with_reducible exact cell_drew c_by_0 | with_reducible exact cell_drew c_by_1 | with_reducible exact cell_drew c_r_0 | with_reducible exact frozen_drew f_r_0 | with_reducible exact cell_drew c_r_1 | with_reducible exact frozen_drew f_r_1 | with_reducible exact cell_drew c_r_2 | with_reducible exact frozen_drew f_r_2 | with_reducible exact cell_drew c_q_0 | with_reducible exact frozen_drew f_q_0 | with_reducible exact held_drew (held_of c_q_1) | with_reducible exact frozen_drew f_q_1 | with_reducible exact cell_drew c_q_2 | with_reducible exact frozen_drew f_q_2 | with_reducible exact hB3.drew))
    (first
      | (go_at_call 119; (try go_split_ands); refine (number_right h _ (hR.below ?_)).mono ?_; assumption; rintro e w4 ⟨rfl, hq⟩; rw [HN.out])
      | (go_at_call 120; (try go_split_ands); refine (natural_any _ _ _ (hR.below ?_) r0 r6 o0 o9).mono ?_; assumption; rintro e w4 ⟨rfl, hq⟩; rw [HM.out]))
  rename_i hS
  clear c_p_0 c_p_1 c_p_2 c_by_0 c_by_1 c_r_0 c_r_1 c_r_2 c_q_0 c_q_1 c_q_2 f_r_0 f_r_1 f_r_2 f_q_0 f_q_1 f_q_2 hB3 z_by z_p z_q z_r
  obtain ⟨c_p_0, c_p_1, c_p_2, c_by_0, c_by_1, c_r_0, f_r_0, c_r_1, f_r_1, c_r_2, f_r_2, c_q_0, f_q_0, h_c_q_1, f_c_q_1, c_q_2, f_q_2, hB4⟩ := hS
  have c_q_1 := set_back h_c_q_1
  clear h_c_q_1
  rw [hX] at *
  generalize w4.setCell ⟨w2.heap.size, 1, none⟩ (.int .i64 X) = w5 at *
  have hB5 := hB4
  clear hB4
  have z_by := World.block_lt_of_cell? _ _ c_by_0
  have z_p := World.block_lt_of_cell? _ _ c_p_0
  have z_q := World.block_lt_of_cell? _ _ c_q_0
  have z_r := World.block_lt_of_cell? _ _ c_r_0
  go_wp2_with fail
  have hR' := hR.below hB5
  refine (right_no hQ _ hR').mono ?_
  rintro e w6 ⟨rfl, hb6⟩
  clear hR'
  have hs6 := hb6
  clear c_p_0
  clear c_p_1
  clear c_p_2
  clear c_by_0
  clear c_by_1
  clear c_q_0
  clear f_q_0
  clear c_q_2
  clear f_q_2
  clear c_q_1
  replace f_r_0 := frozen_later hs6 c_r_0 f_r_0
  replace c_r_0 := cell_later hs6 c_r_0
  replace f_r_1 := frozen_later hs6 c_r_1 f_r_1
  replace c_r_1 := cell_later hs6 c_r_1
  replace f_r_2 := frozen_later hs6 c_r_2 f_r_2
  replace c_r_2 := cell_later hs6 c_r_2
  clear z_r
  have z_r := World.block_lt_of_cell? _ _ c_r_0
  clear z_by
  clear z_p
  clear z_q
  have hB6 := below_two hB5 hs6
  clear hB5 hs6
  obtain ⟨m0, m1, m2⟩ := put3_of (x := .int .i64 0) (y := .int .i64 0) (z := .int .i64 0) c_r_0 c_r_1 c_r_2
  go_wp2
  exact bodyPost_ret (v := .tuple #[.agg #[.int .i64 0, .int .i64 0, .int .i64 0], .int .i64 20]) (by simp [results, Tryd.results79, go_sem, m0, m1, m2]) rfl ⟨rfl, put3_below hB6 (by omega)⟩

set_option maxRecDepth 100000 in
set_option maxHeartbeats 4000000 in
theorem up_yes (s a o S H : Int) (w : World) (hR : Ready w) (h : Pit.IsRight s a o) (h2 : -127 ≤ S) (h3 : S ≤ 127) (h4 : -127 ≤ H) (h5 : H ≤ 127) (L A : Int) (HL : Hid (Pit.lin s o = L)) (hA : IntKind.i64.wrap (IntKind.i64.wrap (L + S) + 7) = A) (h6 : ¬ A < 0) (R O N M X : Int) (hm : A.tmod 7 = R) (hm' : A % 7 = R) (D : Int) (hd : A.tdiv 7 = D) (hd' : A / 7 = D) (hO : D + -1 = O) (r0 : 0 ≤ R) (r6 : R ≤ 6) (o0 : -1 ≤ O) (o9 : O ≤ 100) (HN : Hid (Pit.num s a o = N)) (HM : Hid (Pit.num R 0 O = M)) (hX : IntKind.i64.wrap (IntKind.i64.wrap (N + H) - M) = X) (hQ : Pit.IsRight R X O) :
    Calls Tryd.prog 79 #[pt s a o, iv S H] w fun e w' => e = .returned (pv R X O 0) ∧ Below w.heap.size w w' := by
  have hB0 : Below w.heap.size w w := Below.refl _ _
  go_enter Tryd.func79, Tryd.ntmps79
  go_wp2_with fail
  have hR' := hR.below (((hB0.alloc hB0.size (.cells #[.int .i64 s, .int .i64 a, .int .i64 o] 57)).alloc (hB0.alloc hB0.size (.cells #[.int .i64 s, .int .i64 a, .int .i64 o] 57)).size (.cells #[.int .i64 S, .int .i64 H] 30)).alloc ((hB0.alloc hB0.size (.cells #[.int .i64 s, .int .i64 a, .int .i64 o] 57)).alloc (hB0.alloc hB0.size (.cells #[.int .i64 s, .int .i64 a, .int .i64 o] 57)).size (.cells #[.int .i64 S, .int .i64 H] 30)).size (.cells #[.int .i64 0, .int .i64 0, .int .i64 0] 57))
  refine (right_yes h _ hR').mono ?_
  rintro e w1 ⟨rfl, hb1⟩
  clear hR'
  have hs1 : Below w.heap.size w w1 := Below.trans (by repeat (first | exact Below.refl _ _ | refine Below.alloc ?_ (by simp <;> omega) _)) (hb1.mono (by simp <;> omega))
  have c_p_0 : w1.cell? ⟨w.heap.size, 0, none⟩ = some (.int .i64 s) := (hb1.cell (by simp <;> omega)).trans (by go_simp)
  have c_p_1 : w1.cell? ⟨w.heap.size, 1, none⟩ = some (.int .i64 a) := (hb1.cell (by simp <;> omega)).trans (by go_simp)
  have c_p_2 : w1.cell? ⟨w.heap.size, 2, none⟩ = some (.int .i64 o) := (hb1.cell (by simp <;> omega)).trans (by go_simp)
  have c_by_0 : w1.cell? ⟨w.heap.size + 1, 0, none⟩ = some (.int .i64 S) := (hb1.cell (by simp <;> omega)).trans (by go_simp)
  have c_by_1 : w1.cell? ⟨w.heap.size + 1, 1, none⟩ = some (.int .i64 H) := (hb1.cell (by simp <;> omega)).trans (by go_simp)
  have c_r_0 : w1.cell? ⟨w.heap.size + 1 + 1, 0, none⟩ = some (.int .i64 0) := (hb1.cell (by simp <;> omega)).trans (by go_simp)
  have f_r_0 : w1.frozen? ⟨w.heap.size + 1 + 1, 0, none⟩ = false := (hb1.frozen (by simp <;> omega)).trans (by go_simp)
  have c_r_1 : w1.cell? ⟨w.heap.size + 1 + 1, 1, none⟩ = some (.int .i64 0) := (hb1.cell (by simp <;> omega)).trans (by go_simp)
  have f_r_1 : w1.frozen? ⟨w.heap.size + 1 + 1, 1, none⟩ = false := (hb1.frozen (by simp <;> omega)).trans (by go_simp)
  have c_r_2 : w1.cell? ⟨w.heap.size + 1 + 1, 2, none⟩ = some (.int .i64 0) := (hb1.cell (by simp <;> omega)).trans (by go_simp)
  have f_r_2 : w1.frozen? ⟨w.heap.size + 1 + 1, 2, none⟩ = false := (hb1.frozen (by simp <;> omega)).trans (by go_simp)
  have z_by := World.block_lt_of_cell? _ _ c_by_0
  have z_p := World.block_lt_of_cell? _ _ c_p_0
  have z_r := World.block_lt_of_cell? _ _ c_r_0
  have hB1 := below_two hB0 hs1
  clear hB0 hs1 hb1
  go_wp2_with fail
  refine (within_yes h2 h3 _).mono ?_
  rintro e wx ⟨rfl, rfl⟩
  go_wp2_with fail
  refine (within_yes h4 h5 _).mono ?_
  rintro e wx ⟨rfl, rfl⟩
  go_wp2_with fail
  go_region_held3 (fun w' => w'.cell? ⟨w.heap.size, 0, none⟩ = some (.int .i64 s) ∧ w'.cell? ⟨w.heap.size, 1, none⟩ = some (.int .i64 a) ∧ w'.cell? ⟨w.heap.size, 2, none⟩ = some (.int .i64 o) ∧ w'.cell? ⟨w.heap.size + 1, 0, none⟩ = some (.int .i64 S) ∧ w'.cell? ⟨w.heap.size + 1, 1, none⟩ = some (.int .i64 H) ∧ w'.cell? ⟨w.heap.size + 1 + 1, 0, none⟩ = some (.int .i64 0) ∧ w'.frozen? ⟨w.heap.size + 1 + 1, 0, none⟩ = false ∧ w'.cell? ⟨w.heap.size + 1 + 1, 1, none⟩ = some (.int .i64 0) ∧ w'.frozen? ⟨w.heap.size + 1 + 1, 1, none⟩ = false ∧ w'.cell? ⟨w.heap.size + 1 + 1, 2, none⟩ = some (.int .i64 0) ∧ w'.frozen? ⟨w.heap.size + 1 + 1, 2, none⟩ = false ∧ Below w.heap.size w w')
    (((try go_split_ands); refine ⟨?_, ?_, ?_, ?_, ?_, ?_, ?_, ?_, ?_, ?_, ?_, ?_⟩ <;> first | with_reducible assumption | (with_reducible refine cell_later hq ?_; with_reducible assumption) | (with_reducible refine below_two ?_ hq; with_reducible assumption) | (with_reducible refine frozen_later (v := ?_) hq ?_ ?_; rotate_left; with_reducible assumption; with_reducible assumption) | with_reducible exact cell_drew c_p_0 | with_reducible exact cell_drew c_p_1 | with_reducible exact cell_drew c_p_2 | with_reducible exact cell_drew c_by_0 | with_reducible exact cell_drew c_by_1 | with_reducible exact cell_drew c_r_0 | with_reducible exact frozen_drew f_r_0 | with_reducible exact cell_drew c_r_1 | with_reducible exact frozen_drew f_r_1 | with_reducible exact cell_drew c_r_2 | with_reducible exact frozen_drew f_r_2 | with_reducible exact hB1.drew))
    (first
      | (go_at_call 118; refine (line_any _ _ _ _ h).mono ?_; rintro e w2 ⟨rfl, hq⟩; rw [HL.out]))
  rename_i hS
  clear c_p_0 c_p_1 c_p_2 c_by_0 c_by_1 c_r_0 c_r_1 c_r_2 f_r_0 f_r_1 f_r_2 hB1 z_by z_p z_r
  obtain ⟨c_p_0, c_p_1, c_p_2, c_by_0, c_by_1, c_r_0, f_r_0, c_r_1, f_r_1, c_r_2, f_r_2, hB2⟩ := hS
  have z_by := World.block_lt_of_cell? _ _ c_by_0
  have z_p := World.block_lt_of_cell? _ _ c_p_0
  have z_r := World.block_lt_of_cell? _ _ c_r_0
  go_wp2_with fail
  have hs3 : Below w2.heap.size w2 (w2.alloc (.cells #[.int .i64 R, .int .i64 0, .int .i64 O] 57)) := by repeat (first | exact Below.refl _ _ | refine Below.alloc ?_ (by simp <;> omega) _)
  replace c_p_0 := cell_later hs3 c_p_0
  replace c_p_1 := cell_later hs3 c_p_1
  replace c_p_2 := cell_later hs3 c_p_2
  replace c_by_0 := cell_later hs3 c_by_0
  replace c_by_1 := cell_later hs3 c_by_1
  replace f_r_0 := frozen_later hs3 c_r_0 f_r_0
  replace c_r_0 := cell_later hs3 c_r_0
  replace f_r_1 := frozen_later hs3 c_r_1 f_r_1
  replace c_r_1 := cell_later hs3 c_r_1
  replace f_r_2 := frozen_later hs3 c_r_2 f_r_2
  replace c_r_2 := cell_later hs3 c_r_2
  have c_q_0 : (w2.alloc (.cells #[.int .i64 R, .int .i64 0, .int .i64 O] 57)).cell? ⟨w2.heap.size, 0, none⟩ = some (.int .i64 R) := by go_simp
  have f_q_0 : (w2.alloc (.cells #[.int .i64 R, .int .i64 0, .int .i64 O] 57)).frozen? ⟨w2.heap.size, 0, none⟩ = false := by go_simp
  have c_q_1 : (w2.alloc (.cells #[.int .i64 R, .int .i64 0, .int .i64 O] 57)).cell? ⟨w2.heap.size, 1, none⟩ = some (.int .i64 0) := by go_simp
  have f_q_1 : (w2.alloc (.cells #[.int .i64 R, .int .i64 0, .int .i64 O] 57)).frozen? ⟨w2.heap.size, 1, none⟩ = false := by go_simp
  have c_q_2 : (w2.alloc (.cells #[.int .i64 R, .int .i64 0, .int .i64 O] 57)).cell? ⟨w2.heap.size, 2, none⟩ = some (.int .i64 O) := by go_simp
  have f_q_2 : (w2.alloc (.cells #[.int .i64 R, .int .i64 0, .int .i64 O] 57)).frozen? ⟨w2.heap.size, 2, none⟩ = false := by go_simp
  have hB3 := below_two hB2 hs3
  clear hB2 hs3
  have y3_by := z_by
  have y3_p := z_p
  have y3_r := z_r
  generalize (w2.alloc (.cells #[.int .i64 R, .int .i64 0, .int .i64 O] 57)) = w3 at *
  clear z_by
  have z_by := World.block_lt_of_cell? _ _ c_by_0
  clear z_p
  have z_p := World.block_lt_of_cell? _ _ c_p_0
  have z_q := World.block_lt_of_cell? _ _ c_q_0
  clear z_r
  have z_r := World.block_lt_of_cell? _ _ c_r_0
  go_region_held3 (fun w' => w'.cell? ⟨w.heap.size, 0, none⟩ = some (.int .i64 s) ∧ w'.cell? ⟨w.heap.size, 1, none⟩ = some (.int .i64 a) ∧ w'.cell? ⟨w.heap.size, 2, none⟩ = some (.int .i64 o) ∧ w'.cell? ⟨w.heap.size + 1, 0, none⟩ = some (.int .i64 S) ∧ w'.cell? ⟨w.heap.size + 1, 1, none⟩ = some (.int .i64 H) ∧ w'.cell? ⟨w.heap.size + 1 + 1, 0, none⟩ = some (.int .i64 0) ∧ w'.frozen? ⟨w.heap.size + 1 + 1, 0, none⟩ = false ∧ w'.cell? ⟨w.heap.size + 1 + 1, 1, none⟩ = some (.int .i64 0) ∧ w'.frozen? ⟨w.heap.size + 1 + 1, 1, none⟩ = false ∧ w'.cell? ⟨w.heap.size + 1 + 1, 2, none⟩ = some (.int .i64 0) ∧ w'.frozen? ⟨w.heap.size + 1 + 1, 2, none⟩ = false ∧ w'.cell? ⟨w2.heap.size, 0, none⟩ = some (.int .i64 R) ∧ w'.frozen? ⟨w2.heap.size, 0, none⟩ = false ∧ w'.cell? ⟨w2.heap.size, 1, none⟩ = some (heldAt w' ⟨w2.heap.size, 1, none⟩) ∧ w'.frozen? ⟨w2.heap.size, 1, none⟩ = false ∧ w'.cell? ⟨w2.heap.size, 2, none⟩ = some (.int .i64 O) ∧ w'.frozen? ⟨w2.heap.size, 2, none⟩ = false ∧ Below w.heap.size w w')
    (((try go_split_ands); refine ⟨?_, ?_, ?_, ?_, ?_, ?_, ?_, ?_, ?_, ?_, ?_, ?_, ?_, ?_, ?_, ?_, ?_, ?_⟩ <;> first | with_reducible assumption | (with_reducible refine cell_later hq ?_; with_reducible assumption) | (with_reducible refine below_two ?_ hq; with_reducible assumption) | (with_reducible refine frozen_later (v := ?_) hq ?_ ?_; rotate_left; with_reducible assumption; with_reducible assumption) | (with_reducible refine held_later hq ?_; with_reducible assumption) | (with_reducible refine frozen_held hq ?_ ?_ <;> with_reducible assumption) | (with_reducible refine set_far ?_ ?_; omega; with_reducible assumption) | (with_reducible refine set_beside ?_ ?_; decide; with_reducible assumption) | (with_reducible refine set_held ?_; with_reducible assumption) | (with_reducible refine set_frozen ?_; with_reducible assumption) | (with_reducible refine set1_below ?_ ?_; with_reducible assumption; omega) | with_reducible exact cell_drew c_p_0 | with_reducible exact cell_drew c_p_1 | with_reducible exact cell_drew c_p_2 | with_reducible exact cell_drew c_by_0 | with_reducible exact cell_drew c_by_1 | with_reducible exact cell_drew c_r_0 | with_reducible exact frozen_drew f_r_0 | with_reducible exact cell_drew c_r_1 | with_reducible exact frozen_drew f_r_1 | with_reducible exact cell_drew c_r_2 | with_reducible exact frozen_drew f_r_2 | with_reducible exact cell_drew c_q_0 | with_reducible exact frozen_drew f_q_0 | with_reducible exact held_drew (held_of c_q_1) | with_reducible exact frozen_drew f_q_1 | with_reducible exact cell_drew c_q_2 | with_reducible exact frozen_drew f_q_2 | with_reducible exact hB3.drew))
    (first
      | (go_at_call 119; (try go_split_ands); refine (number_right h _ (hR.below ?_)).mono ?_; assumption; rintro e w4 ⟨rfl, hq⟩; rw [HN.out])
      | (go_at_call 120; (try go_split_ands); refine (natural_any _ _ _ (hR.below ?_) r0 r6 o0 o9).mono ?_; assumption; rintro e w4 ⟨rfl, hq⟩; rw [HM.out]))
  rename_i hS
  clear c_p_0 c_p_1 c_p_2 c_by_0 c_by_1 c_r_0 c_r_1 c_r_2 c_q_0 c_q_1 c_q_2 f_r_0 f_r_1 f_r_2 f_q_0 f_q_1 f_q_2 hB3 z_by z_p z_q z_r
  obtain ⟨c_p_0, c_p_1, c_p_2, c_by_0, c_by_1, c_r_0, f_r_0, c_r_1, f_r_1, c_r_2, f_r_2, c_q_0, f_q_0, h_c_q_1, f_c_q_1, c_q_2, f_q_2, hB4⟩ := hS
  have c_q_1 := set_back h_c_q_1
  clear h_c_q_1
  rw [hX] at *
  generalize w4.setCell ⟨w2.heap.size, 1, none⟩ (.int .i64 X) = w5 at *
  have hB5 := hB4
  clear hB4
  have z_by := World.block_lt_of_cell? _ _ c_by_0
  have z_p := World.block_lt_of_cell? _ _ c_p_0
  have z_q := World.block_lt_of_cell? _ _ c_q_0
  have z_r := World.block_lt_of_cell? _ _ c_r_0
  go_wp2_with fail
  have hR' := hR.below hB5
  refine (right_yes hQ _ hR').mono ?_
  rintro e w6 ⟨rfl, hb6⟩
  clear hR'
  have hs6 := hb6
  clear c_p_0
  clear c_p_1
  clear c_p_2
  clear c_by_0
  clear c_by_1
  replace f_r_0 := frozen_later hs6 c_r_0 f_r_0
  replace c_r_0 := cell_later hs6 c_r_0
  replace f_r_1 := frozen_later hs6 c_r_1 f_r_1
  replace c_r_1 := cell_later hs6 c_r_1
  replace f_r_2 := frozen_later hs6 c_r_2 f_r_2
  replace c_r_2 := cell_later hs6 c_r_2
  replace f_q_0 := frozen_later hs6 c_q_0 f_q_0
  replace c_q_0 := cell_later hs6 c_q_0
  replace f_q_2 := frozen_later hs6 c_q_2 f_q_2
  replace c_q_2 := cell_later hs6 c_q_2
  replace c_q_1 := cell_later hs6 c_q_1
  clear z_q
  have z_q := World.block_lt_of_cell? _ _ c_q_0
  clear z_r
  have z_r := World.block_lt_of_cell? _ _ c_r_0
  clear z_by
  clear z_p
  have hB6 := below_two hB5 hs6
  clear hB5 hs6
  obtain ⟨m0, m1, m2⟩ := put3_of (x := .int .i64 R) (y := .int .i64 X) (z := .int .i64 O) c_r_0 c_r_1 c_r_2
  go_wp2
  exact bodyPost_ret (v := .tuple #[.agg #[.int .i64 R, .int .i64 X, .int .i64 O], .int .i64 0]) (by simp [results, Tryd.results79, go_sem, m0, m1, m2]) rfl ⟨rfl, put3_below hB6 (by omega)⟩

/-- What Up answers. -/
def upV (x : Option (Int × Int × Int)) : Value := match x with | some (s, a, o) => pv s a o 0 | none => pv 0 0 0 20

theorem up_val1 {s a o S H : Int} (h : Pit.right s a o = false) : Pit.up s a o S H = none := by
  unfold Pit.up Pit.upOk; rw [h]; rfl

theorem up_val2 {s a o S H : Int} (h : ¬ (-127 ≤ S ∧ S ≤ 127 ∧ -127 ≤ H ∧ H ≤ 127 ∧ 0 ≤ Pit.lin s o + S + 7)) : Pit.up s a o S H = none := by
  unfold Pit.up Pit.upOk; rw [decide_eq_false h]; simp

theorem up_val3 {s a o S H : Int} (h1 : Pit.right s a o = true) (h : -127 ≤ S ∧ S ≤ 127 ∧ -127 ≤ H ∧ H ≤ 127 ∧ 0 ≤ Pit.lin s o + S + 7) : Pit.up s a o S H = if Pit.right (Pit.upS s o S) (Pit.upA s a o S H) (Pit.upO s o S) then some (Pit.upS s o S, Pit.upA s a o S H, Pit.upO s o S) else none := by
  unfold Pit.up Pit.upOk; rw [decide_eq_true h, h1]; simp

theorem up_any (s a o S H : Int) (w : World) (hR : Ready w) :
    Calls Tryd.prog 79 #[pt s a o, iv S H] w fun e w' => e = .returned (upV (Pit.up s a o S H)) ∧ Below w.heap.size w w' := by
  cases h1 : Pit.right s a o with
  | false => rw [up_val1 h1]; exact up_no1 s a o S H w hR h1
  | true =>
    have h := (Pit.right_iff _ _ _).1 h1
    by_cases hS : -127 ≤ S ∧ S ≤ 127
    · by_cases hH : -127 ≤ H ∧ H ≤ 127
      · obtain ⟨l0, l1⟩ := lin_bounds h
        have hA : IntKind.i64.wrap (IntKind.i64.wrap (Pit.lin s o + S) + 7) = Pit.lin s o + S + 7 := by rw [IntWalk.i64_in (Pit.lin s o + S) (by omega), IntWalk.i64_in _ (by omega)]
        by_cases hA0 : Pit.lin s o + S + 7 < 0
        · rw [up_val2 (fun x => by omega)]
          exact up_no4 s a o S H w hR h hS.1 hS.2 hH.1 hH.2 _ _ (Lib.hid rfl) hA hA0
        · rw [up_val3 h1 ⟨hS.1, hS.2, hH.1, hH.2, by omega⟩]
          have n0 := h.n0
          have nM := h.nM
          have r0 : 0 ≤ Pit.upS s o S := by unfold Pit.upS; omega
          have r6 : Pit.upS s o S ≤ 6 := by unfold Pit.upS; omega
          have o0 : -1 ≤ Pit.upO s o S := by unfold Pit.upO; omega
          have o9 : Pit.upO s o S ≤ 100 := by unfold Pit.upO; omega
          have hm' : (Pit.lin s o + S + 7) % 7 = Pit.upS s o S := rfl
          have hm : (Pit.lin s o + S + 7).tmod 7 = Pit.upS s o S := by rw [Int.tmod_eq_emod_of_nonneg (by omega)]; exact hm'
          have hd : (Pit.lin s o + S + 7).tdiv 7 = (Pit.lin s o + S + 7) / 7 := Int.tdiv_eq_ediv_of_nonneg (by omega)
          have hO : (Pit.lin s o + S + 7) / 7 + -1 = Pit.upO s o S := by unfold Pit.upO; omega
          have hM : -200 ≤ Pit.num (Pit.upS s o S) 0 (Pit.upO s o S) ∧ Pit.num (Pit.upS s o S) 0 (Pit.upO s o S) ≤ 2000 := by
            rw [Pit.num_eq]
            rcases Pit.hv_cases (Pit.upS s o S) with ⟨_, e⟩ | ⟨_, e⟩ <;> omega
          have hX : IntKind.i64.wrap (IntKind.i64.wrap (Pit.num s a o + H) - Pit.num (Pit.upS s o S) 0 (Pit.upO s o S)) = Pit.upA s a o S H := by
            rw [IntWalk.i64_in (Pit.num s a o + H) (by omega), IntWalk.i64_in _ (by omega)]; rfl
          cases hQ : Pit.right (Pit.upS s o S) (Pit.upA s a o S H) (Pit.upO s o S) with
          | false => exact up_no5 s a o S H w hR h hS.1 hS.2 hH.1 hH.2 _ _ (Lib.hid rfl) hA hA0 _ _ _ _ _ hm hm' _ hd rfl hO r0 r6 o0 o9 (Lib.hid rfl) (Lib.hid rfl) hX hQ
          | true => exact up_yes s a o S H w hR h hS.1 hS.2 hH.1 hH.2 _ _ (Lib.hid rfl) hA hA0 _ _ _ _ _ hm hm' _ hd rfl hO r0 r6 o0 o9 (Lib.hid rfl) (Lib.hid rfl) hX ((Pit.right_iff _ _ _).1 hQ)
      · rw [up_val2 (fun x => hH ⟨x.2.2.1, x.2.2.2.1⟩)]
        exact up_no3 s a o S H w hR h hS.1 hS.2 hH
    · rw [up_val2 (fun x => hS ⟨x.1, x.2.1⟩)]
      exact up_no2 s a o S H w hR h hS

set_option maxHeartbeats 1000000 in
theorem cmp_any (x y : Int) (w : World) :
    Calls Tryd.prog 60 #[.int .i64 x, .int .i64 y] w fun e w' => e = .returned (.int .i64 (Pit.cmp x y)) ∧ w = w' := by
  rcases Pit.cmp_cases x y with ⟨h, e⟩ | ⟨h, e⟩ | ⟨h, e⟩
  · rw [e]
    have h2 : ¬ y < x := by omega
    go_enter Tryd.func60, Tryd.ntmps60
    go_wp2
    go_ret
    exact ⟨rfl, rfl⟩
  · rw [e]
    subst h
    go_enter Tryd.func60, Tryd.ntmps60
    go_wp2
    go_ret
    exact ⟨rfl, rfl⟩
  · rw [e]
    have h2 : ¬ x < y := by omega
    go_enter Tryd.func60, Tryd.ntmps60
    go_wp2
    go_ret
    exact ⟨rfl, rfl⟩

def orV (x y : Int) : Int := if x = 0 then y else x

theorem orV_1 {x y : Int} (h : x = 0) : orV x y = y := if_pos h

theorem orV_2 {x y : Int} (h : ¬ x = 0) : orV x y = x := if_neg h

def OrRel (x y : Int) (i : Value) : Prop := i = .int .i64 0 ∨ (i = .int .i64 1 ∧ x = 0) ∨ (i = .int .i64 2 ∧ x = 0 ∧ y = 0)

set_option maxRecDepth 100000 in
set_option maxHeartbeats 2000000 in
theorem or_any (x y : Int) (b : Nat) (c : Nat) (w : World) (h0 : w.cell? ⟨b, 0, none⟩ = some (.int .i64 x)) (h1 : w.cell? ⟨b, 1, none⟩ = some (.int .i64 y)) :
    Calls Tryd.prog 126 #[.slice (some ⟨b, 0, none⟩) 2 c] w fun e w' => e = .returned (.int .i64 (orV x y)) ∧ w = w' := by
  go_enter Tryd.func126, Tryd.ntmps126
  go_wp2
  go_loop [8] (OrRel x y) (fun i => 2 - (intOf i).toNat)
  case atStart => exact Or.inl rfl
  case round =>
    rcases hrel with rfl | ⟨rfl, rfl⟩ | ⟨rfl, rfl, rfl⟩
    · by_cases hx : x = 0
      · subst hx
        go_wp2
        exact ⟨Or.inr (Or.inl ⟨rfl, rfl⟩), by simp [intOf]⟩
      · have hx1 : (x != 0) = true := by simp [hx]
        go_wp2
        go_ret
        exact ⟨ret_int (orV_2 hx).symm, rfl⟩
    · by_cases hy : y = 0
      · subst hy
        go_wp2
        exact ⟨Or.inr (Or.inr ⟨rfl, rfl, rfl⟩), by simp [intOf]⟩
      · have hy1 : (y != 0) = true := by simp [hy]
        go_wp2
        go_ret
        exact ⟨ret_int (orV_1 rfl).symm, rfl⟩
    · go_wp2
      go_ret
      exact ⟨ret_int (orV_1 rfl).symm, rfl⟩

theorem new_0 {w : World} {x y : Value} {t : TypeId} : (w.alloc (.cells #[x, y] t)).cell? ⟨w.heap.size, 0, none⟩ = some x := by go_simp

theorem new_1 {w : World} {x y : Value} {t : TypeId} : (w.alloc (.cells #[x, y] t)).cell? ⟨w.heap.size, 1, none⟩ = some y := by go_simp

set_option maxRecDepth 100000 in
set_option maxHeartbeats 4000000 in
theorem compare_no1 (s a o t b p : Int) (w : World) (hR : Ready w) (h : Pit.right s a o = false) :
    Calls Tryd.prog 90 #[pt s a o, pt t b p] w fun e w' => e = .returned (.int .i64 0) ∧ Below w.heap.size w w' := by
  have hB0 : Below w.heap.size w w := Below.refl _ _
  go_enter Tryd.func90, Tryd.ntmps90
  go_wp2_with fail
  have hR' := hR.below ((hB0.alloc hB0.size (.cells #[.int .i64 s, .int .i64 a, .int .i64 o] 57)).alloc (hB0.alloc hB0.size (.cells #[.int .i64 s, .int .i64 a, .int .i64 o] 57)).size (.cells #[.int .i64 t, .int .i64 b, .int .i64 p] 57))
  refine (right_no h _ hR').mono ?_
  rintro e w1 ⟨rfl, hb1⟩
  clear hR'
  have hs1 : Below w.heap.size w w1 := Below.trans (by repeat (first | exact Below.refl _ _ | refine Below.alloc ?_ (by simp <;> omega) _)) (hb1.mono (by simp <;> omega))
  have hB1 := below_two hB0 hs1
  clear hB0 hs1 hb1
  go_wp2
  go_ret
  exact ⟨rfl, hB1⟩

set_option maxRecDepth 100000 in
set_option maxHeartbeats 4000000 in
theorem compare_no2 (s a o t b p : Int) (w : World) (hR : Ready w) (h1 : Pit.IsRight s a o) (h : Pit.right t b p = false) :
    Calls Tryd.prog 90 #[pt s a o, pt t b p] w fun e w' => e = .returned (.int .i64 0) ∧ Below w.heap.size w w' := by
  have hB0 : Below w.heap.size w w := Below.refl _ _
  go_enter Tryd.func90, Tryd.ntmps90
  go_wp2_with fail
  have hR' := hR.below ((hB0.alloc hB0.size (.cells #[.int .i64 s, .int .i64 a, .int .i64 o] 57)).alloc (hB0.alloc hB0.size (.cells #[.int .i64 s, .int .i64 a, .int .i64 o] 57)).size (.cells #[.int .i64 t, .int .i64 b, .int .i64 p] 57))
  refine (right_yes h1 _ hR').mono ?_
  rintro e w1 ⟨rfl, hb1⟩
  clear hR'
  have hs1 : Below w.heap.size w w1 := Below.trans (by repeat (first | exact Below.refl _ _ | refine Below.alloc ?_ (by simp <;> omega) _)) (hb1.mono (by simp <;> omega))
  have c_b_0 : w1.cell? ⟨w.heap.size + 1, 0, none⟩ = some (.int .i64 t) := (hb1.cell (by simp <;> omega)).trans (by go_simp)
  have c_b_1 : w1.cell? ⟨w.heap.size + 1, 1, none⟩ = some (.int .i64 b) := (hb1.cell (by simp <;> omega)).trans (by go_simp)
  have c_b_2 : w1.cell? ⟨w.heap.size + 1, 2, none⟩ = some (.int .i64 p) := (hb1.cell (by simp <;> omega)).trans (by go_simp)
  have z_b := World.block_lt_of_cell? _ _ c_b_0
  have hB1 := below_two hB0 hs1
  clear hB0 hs1 hb1
  go_wp2_with fail
  have hR' := hR.below hB1
  refine (right_no h _ hR').mono ?_
  rintro e w2 ⟨rfl, hb2⟩
  clear hR'
  have hs2 := hb2
  clear c_b_0
  clear c_b_1
  clear c_b_2
  clear z_b
  have hB2 := below_two hB1 hs2
  clear hB1 hs2
  go_wp2
  go_ret
  exact ⟨rfl, hB2⟩

set_option maxRecDepth 100000 in
set_option maxHeartbeats 4000000 in
theorem compare_yes (s a o t b p : Int) (w : World) (hR : Ready w) (h1 : Pit.IsRight s a o) (h2 : Pit.IsRight t b p) :
    Calls Tryd.prog 90 #[pt s a o, pt t b p] w fun e w' => e = .returned (.int .i64 (orV (Pit.cmp (Pit.num s a o) (Pit.num t b p)) (Pit.cmp (Pit.lin s o) (Pit.lin t p)))) ∧ Below w.heap.size w w' := by
  have hB0 : Below w.heap.size w w := Below.refl _ _
  go_enter Tryd.func90, Tryd.ntmps90
  go_wp2_with fail
  have hR' := hR.below ((hB0.alloc hB0.size (.cells #[.int .i64 s, .int .i64 a, .int .i64 o] 57)).alloc (hB0.alloc hB0.size (.cells #[.int .i64 s, .int .i64 a, .int .i64 o] 57)).size (.cells #[.int .i64 t, .int .i64 b, .int .i64 p] 57))
  refine (right_yes h1 _ hR').mono ?_
  rintro e w1 ⟨rfl, hb1⟩
  clear hR'
  have hs1 : Below w.heap.size w w1 := Below.trans (by repeat (first | exact Below.refl _ _ | refine Below.alloc ?_ (by simp <;> omega) _)) (hb1.mono (by simp <;> omega))
  have c_a_0 : w1.cell? ⟨w.heap.size, 0, none⟩ = some (.int .i64 s) := (hb1.cell (by simp <;> omega)).trans (by go_simp)
  have c_a_1 : w1.cell? ⟨w.heap.size, 1, none⟩ = some (.int .i64 a) := (hb1.cell (by simp <;> omega)).trans (by go_simp)
  have c_a_2 : w1.cell? ⟨w.heap.size, 2, none⟩ = some (.int .i64 o) := (hb1.cell (by simp <;> omega)).trans (by go_simp)
  have c_b_0 : w1.cell? ⟨w.heap.size + 1, 0, none⟩ = some (.int .i64 t) := (hb1.cell (by simp <;> omega)).trans (by go_simp)
  have c_b_1 : w1.cell? ⟨w.heap.size + 1, 1, none⟩ = some (.int .i64 b) := (hb1.cell (by simp <;> omega)).trans (by go_simp)
  have c_b_2 : w1.cell? ⟨w.heap.size + 1, 2, none⟩ = some (.int .i64 p) := (hb1.cell (by simp <;> omega)).trans (by go_simp)
  have z_a := World.block_lt_of_cell? _ _ c_a_0
  have z_b := World.block_lt_of_cell? _ _ c_b_0
  have hB1 := below_two hB0 hs1
  clear hB0 hs1 hb1
  go_wp2_with fail
  have hR' := hR.below hB1
  refine (right_yes h2 _ hR').mono ?_
  rintro e w2 ⟨rfl, hb2⟩
  clear hR'
  have hs2 := hb2
  replace c_a_0 := cell_later hs2 c_a_0
  replace c_a_1 := cell_later hs2 c_a_1
  replace c_a_2 := cell_later hs2 c_a_2
  replace c_b_0 := cell_later hs2 c_b_0
  replace c_b_1 := cell_later hs2 c_b_1
  replace c_b_2 := cell_later hs2 c_b_2
  clear z_a
  have z_a := World.block_lt_of_cell? _ _ c_a_0
  clear z_b
  have z_b := World.block_lt_of_cell? _ _ c_b_0
  have hB2 := below_two hB1 hs2
  clear hB1 hs2
  go_wp2_with fail
  go_region_held3 (fun w' => w'.cell? ⟨w.heap.size, 0, none⟩ = some (.int .i64 s) ∧ w'.cell? ⟨w.heap.size, 1, none⟩ = some (.int .i64 a) ∧ w'.cell? ⟨w.heap.size, 2, none⟩ = some (.int .i64 o) ∧ w'.cell? ⟨w.heap.size + 1, 0, none⟩ = some (.int .i64 t) ∧ w'.cell? ⟨w.heap.size + 1, 1, none⟩ = some (.int .i64 b) ∧ w'.cell? ⟨w.heap.size + 1, 2, none⟩ = some (.int .i64 p) ∧ Below w.heap.size w w')
    (((try go_split_ands); refine ⟨?_, ?_, ?_, ?_, ?_, ?_, ?_⟩ <;> first | with_reducible assumption | (with_reducible refine cell_later hq ?_; with_reducible assumption) | (with_reducible refine below_two ?_ hq; with_reducible assumption) | (with_reducible refine alloc_cell ?_; with_reducible assumption) | (with_reducible refine alloc_below ?_; with_reducible assumption) | with_reducible exact cell_drew c_a_0 | with_reducible exact cell_drew c_a_1 | with_reducible exact cell_drew c_a_2 | with_reducible exact cell_drew c_b_0 | with_reducible exact cell_drew c_b_1 | with_reducible exact cell_drew c_b_2 | with_reducible exact hB2.drew))
    (first
      | (go_at_call 118; refine (line_any _ _ _ _ ?_).mono ?_; (first | exact h1 | exact h2); rintro e w3 ⟨rfl, hq⟩)
      | (go_at_call 119; (try go_split_ands); refine (number_right ?_ _ (hR.below ?_)).mono ?_; (first | exact h1 | exact h2); assumption; rintro e w3 ⟨rfl, hq⟩)
      | (go_at_call 60; refine (cmp_any _ _ _).mono ?_; rintro e w3 ⟨rfl, rfl⟩)
      | (go_at_call 126; refine (or_any _ _ _ _ _ new_0 new_1).mono ?_; rintro e w3 ⟨rfl, rfl⟩))
  rename_i hS
  clear c_a_0 c_a_1 c_a_2 c_b_0 c_b_1 c_b_2 hB2 z_a z_b
  obtain ⟨c_a_0, c_a_1, c_a_2, c_b_0, c_b_1, c_b_2, hB3⟩ := hS
  have z_a := World.block_lt_of_cell? _ _ c_a_0
  have z_b := World.block_lt_of_cell? _ _ c_b_0
  go_wp2
  go_ret
  exact ⟨rfl, hB3⟩

theorem compare_any (s a o t b p : Int) (w : World) (hR : Ready w) :
    Calls Tryd.prog 90 #[pt s a o, pt t b p] w fun e w' => e = .returned (.int .i64 (Pit.cmpP (Pit.right s a o && Pit.right t b p) s a o t b p)) ∧ Below w.heap.size w w' := by
  cases h1 : Pit.right s a o
  · exact compare_no1 s a o t b p w hR h1
  · cases h2 : Pit.right t b p
    · exact compare_no2 s a o t b p w hR ((Pit.right_iff _ _ _).1 h1) h2
    · exact compare_yes s a o t b p w hR ((Pit.right_iff _ _ _).1 h1) ((Pit.right_iff _ _ _).1 h2)

/-- Are two pitches, two intervals the same, field by field? -/
def eqP (s a o t b p : Int) : Bool := s == t && (a == b && o == p)

theorem eqP_iff (s a o t b p : Int) : eqP s a o t b p = true ↔ s = t ∧ a = b ∧ o = p := by unfold eqP; simp

theorem eqP_self (s a o : Int) : eqP s a o s a o = true := (eqP_iff _ _ _ _ _ _).2 ⟨rfl, rfl, rfl⟩

theorem guardP : Tryd.prog.eqGuardType Tryd.prog.depth 57 = false := by kernel_rfl

theorem eql_pt (s a o t b p : Int) (w : World) : (binOp .eql 57 (pt s a o) (pt t b p)).run Tryd.prog w = .ok (.bool (eqP s a o t b p)) w := by
  have u3 := Tryd.underlying3
  have a3 := Tryd.isAgg3
  have z3 := Tryd.sizeOf3
  have hS : Tryd.prog.underlying 57 = some (.struct (Tryd.prog.fieldsOf 57)) := by kernel_rfl
  have hp : Tryd.prog.stoodInHeld 57 = false := by kernel_rfl
  rw [run_eql_struct, show (10000 : Nat) = 9999 + 1 from rfl, run_equalIn_agg w 9999 57 _ _ hS hp]
  simp only [Program.fieldsOf, Tryd.underlying57]
  go_simp
  unfold eqP
  by_cases h1 : s = t <;> by_cases h2 : a = b <;> by_cases h3 : o = p <;> simp [h1, h2, h3]

theorem neq_pt (s a o t b p : Int) (w : World) : (binOp .neq 57 (pt s a o) (pt t b p)).run Tryd.prog w = .ok (.bool (!eqP s a o t b p)) w := by
  have u3 := Tryd.underlying3
  have a3 := Tryd.isAgg3
  have z3 := Tryd.sizeOf3
  have hS : Tryd.prog.underlying 57 = some (.struct (Tryd.prog.fieldsOf 57)) := by kernel_rfl
  have hp : Tryd.prog.stoodInHeld 57 = false := by kernel_rfl
  rw [run_neq_struct, show (10000 : Nat) = 9999 + 1 from rfl, run_equalIn_agg w 9999 57 _ _ hS hp]
  simp only [Program.fieldsOf, Tryd.underlying57]
  go_simp
  unfold eqP
  by_cases h1 : s = t <;> by_cases h2 : a = b <;> by_cases h3 : o = p <;> simp [h1, h2, h3]
end Go.Proofs.YtnfnonlbokddfaaDoor
