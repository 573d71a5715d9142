/-
  The contract of pitch.Up.
-/
import Derived.Test.YtahcbgngdpjhkaaDoorKeyB
namespace Go.Proofs.YtahcbgngdpjhkaaDoor
open Go.RowKit
theorem line_any (s a o : Int) (w : World) (h : Pit.IsRight s a o) :
    Calls Tryd.prog 48 #[pt s a o] w fun e w' => e = .returned (.int .i64 (Pit.lin s o)) ∧ Below w.heap.size w w' := by
  obtain ⟨h0, h1, h2, h3, h4, h5, -⟩ := h.all
  have HN : Hid (Pit.lin s o = 7 * o + s) := Lib.hid rfl
  generalize Pit.lin s o = N at *
  clear h
  go_enter Tryd.func48, Tryd.ntmps48
  go_wp2
  go_ret
  exact ⟨ret_int HN.out.symm, (by repeat (first | exact Below.refl _ _ | refine below_drewN ?_ _ | refine Below.drew ?_ | refine Below.setCell ?_ (by simp) _ | refine Below.alloc ?_ (by simp) _))⟩


theorem lin_bounds {s a o : Int} (h : Pit.IsRight s a o) : -7 ≤ Pit.lin s o ∧ Pit.lin s o ≤ 69 := by
  obtain ⟨h0, h1, h2, h3, h4, h5, -⟩ := h.all
  rw [Pit.lin_eq]; omega

set_option maxRecDepth 100000 in
set_option maxHeartbeats 4000000 in
theorem up_no1 (s a o S H : Int) (w : World) (hR : Ready w) (h : Pit.right s a o = false) :
    Calls Tryd.prog 34 #[pt s a o, iv S H] w fun e w' => e = .returned (pv 0 0 0 20) ∧ Below w.heap.size w w' := by
  have hB0 : Below w.heap.size w w := Below.refl _ _
  go_enter Tryd.func34, Tryd.ntmps34
  go_wp2_with fail
  have hR' := hR.below (((hB0.alloc hB0.size (.cells #[.int .i64 s, .int .i64 a, .int .i64 o] 42)).alloc (hB0.alloc hB0.size (.cells #[.int .i64 s, .int .i64 a, .int .i64 o] 42)).size (.cells #[.int .i64 S, .int .i64 H] 37)).alloc ((hB0.alloc hB0.size (.cells #[.int .i64 s, .int .i64 a, .int .i64 o] 42)).alloc (hB0.alloc hB0.size (.cells #[.int .i64 s, .int .i64 a, .int .i64 o] 42)).size (.cells #[.int .i64 S, .int .i64 H] 37)).size (.cells #[.int .i64 0, .int .i64 0, .int .i64 0] 42))
  refine (right_no h _ hR').mono ?_
  rintro e w1 ⟨rfl, hb1⟩
  clear hR'
  have hs1 : Below w.heap.size w w1 := Below.trans (by repeat (first | exact Below.refl _ _ | refine Below.alloc ?_ (by simp <;> omega) _)) (hb1.mono (by simp <;> omega))
  have c_r_0 : w1.cell? ⟨w.heap.size + 1 + 1, 0, none⟩ = some (.int .i64 0) := (hb1.cell (by simp <;> omega)).trans (by go_simp)
  have f_r_0 : w1.frozen? ⟨w.heap.size + 1 + 1, 0, none⟩ = false := (hb1.frozen (by simp <;> omega)).trans (by go_simp)
  have c_r_1 : w1.cell? ⟨w.heap.size + 1 + 1, 1, none⟩ = some (.int .i64 0) := (hb1.cell (by simp <;> omega)).trans (by go_simp)
  have f_r_1 : w1.frozen? ⟨w.heap.size + 1 + 1, 1, none⟩ = false := (hb1.frozen (by simp <;> omega)).trans (by go_simp)
  have c_r_2 : w1.cell? ⟨w.heap.size + 1 + 1, 2, none⟩ = some (.int .i64 0) := (hb1.cell (by simp <;> omega)).trans (by go_simp)
  have f_r_2 : w1.frozen? ⟨w.heap.size + 1 + 1, 2, none⟩ = false := (hb1.frozen (by simp <;> omega)).trans (by go_simp)
  have z_r := World.block_lt_of_cell? _ _ c_r_0
  have hB1 := below_two hB0 hs1
  clear hB0 hs1 hb1
  obtain ⟨m0, m1, m2⟩ := put3_of (x := .int .i64 0) (y := .int .i64 0) (z := .int .i64 0) c_r_0 c_r_1 c_r_2
  go_wp2
  exact bodyPost_ret (v := .tuple #[.agg #[.int .i64 0, .int .i64 0, .int .i64 0], .int .i64 20]) (by simp [results, Tryd.results34, go_sem, m0, m1, m2]) rfl ⟨rfl, put3_below hB1 (by omega)⟩

set_option maxRecDepth 100000 in
set_option maxHeartbeats 4000000 in
theorem up_no2 (s a o S H : Int) (w : World) (hR : Ready w) (h : Pit.IsRight s a o) (h2 : ¬ (-127 ≤ S ∧ S ≤ 127)) :
    Calls Tryd.prog 34 #[pt s a o, iv S H] w fun e w' => e = .returned (pv 0 0 0 20) ∧ Below w.heap.size w w' := by
  have hB0 : Below w.heap.size w w := Below.refl _ _
  go_enter Tryd.func34, Tryd.ntmps34
  go_wp2_with fail
  have hR' := hR.below (((hB0.alloc hB0.size (.cells #[.int .i64 s, .int .i64 a, .int .i64 o] 42)).alloc (hB0.alloc hB0.size (.cells #[.int .i64 s, .int .i64 a, .int .i64 o] 42)).size (.cells #[.int .i64 S, .int .i64 H] 37)).alloc ((hB0.alloc hB0.size (.cells #[.int .i64 s, .int .i64 a, .int .i64 o] 42)).alloc (hB0.alloc hB0.size (.cells #[.int .i64 s, .int .i64 a, .int .i64 o] 42)).size (.cells #[.int .i64 S, .int .i64 H] 37)).size (.cells #[.int .i64 0, .int .i64 0, .int .i64 0] 42))
  refine (right_yes h _ hR').mono ?_
  rintro e w1 ⟨rfl, hb1⟩
  clear hR'
  have hs1 : Below w.heap.size w w1 := Below.trans (by repeat (first | exact Below.refl _ _ | refine Below.alloc ?_ (by simp <;> omega) _)) (hb1.mono (by simp <;> omega))
  have c_by_0 : w1.cell? ⟨w.heap.size + 1, 0, none⟩ = some (.int .i64 S) := (hb1.cell (by simp <;> omega)).trans (by go_simp)
  have c_by_1 : w1.cell? ⟨w.heap.size + 1, 1, none⟩ = some (.int .i64 H) := (hb1.cell (by simp <;> omega)).trans (by go_simp)
  have c_r_0 : w1.cell? ⟨w.heap.size + 1 + 1, 0, none⟩ = some (.int .i64 0) := (hb1.cell (by simp <;> omega)).trans (by go_simp)
  have f_r_0 : w1.frozen? ⟨w.heap.size + 1 + 1, 0, none⟩ = false := (hb1.frozen (by simp <;> omega)).trans (by go_simp)
  have c_r_1 : w1.cell? ⟨w.heap.size + 1 + 1, 1, none⟩ = some (.int .i64 0) := (hb1.cell (by simp <;> omega)).trans (by go_simp)
  have f_r_1 : w1.frozen? ⟨w.heap.size + 1 + 1, 1, none⟩ = false := (hb1.frozen (by simp <;> omega)).trans (by go_simp)
  have c_r_2 : w1.cell? ⟨w.heap.size + 1 + 1, 2, none⟩ = some (.int .i64 0) := (hb1.cell (by simp <;> omega)).trans (by go_simp)
  have f_r_2 : w1.frozen? ⟨w.heap.size + 1 + 1, 2, none⟩ = false := (hb1.frozen (by simp <;> omega)).trans (by go_simp)
  have z_by := World.block_lt_of_cell? _ _ c_by_0
  have z_r := World.block_lt_of_cell? _ _ c_r_0
  have hB1 := below_two hB0 hs1
  clear hB0 hs1 hb1
  go_wp2_with fail
  refine (within_no h2 _).mono ?_
  rintro e wx ⟨rfl, rfl⟩
  obtain ⟨m0, m1, m2⟩ := put3_of (x := .int .i64 0) (y := .int .i64 0) (z := .int .i64 0) c_r_0 c_r_1 c_r_2
  go_wp2
  exact bodyPost_ret (v := .tuple #[.agg #[.int .i64 0, .int .i64 0, .int .i64 0], .int .i64 20]) (by simp [results, Tryd.results34, go_sem, m0, m1, m2]) rfl ⟨rfl, put3_below hB1 (by omega)⟩

set_option maxRecDepth 100000 in
set_option maxHeartbeats 4000000 in
theorem up_no3 (s a o S H : Int) (w : World) (hR : Ready w) (h : Pit.IsRight s a o) (h2 : -127 ≤ S) (h3 : S ≤ 127) (h4 : ¬ (-127 ≤ H ∧ H ≤ 127)) :
    Calls Tryd.prog 34 #[pt s a o, iv S H] w fun e w' => e = .returned (pv 0 0 0 20) ∧ Below w.heap.size w w' := by
  have hB0 : Below w.heap.size w w := Below.refl _ _
  go_enter Tryd.func34, Tryd.ntmps34
  go_wp2_with fail
  have hR' := hR.below (((hB0.alloc hB0.size (.cells #[.int .i64 s, .int .i64 a, .int .i64 o] 42)).alloc (hB0.alloc hB0.size (.cells #[.int .i64 s, .int .i64 a, .int .i64 o] 42)).size (.cells #[.int .i64 S, .int .i64 H] 37)).alloc ((hB0.alloc hB0.size (.cells #[.int .i64 s, .int .i64 a, .int .i64 o] 42)).alloc (hB0.alloc hB0.size (.cells #[.int .i64 s, .int .i64 a, .int .i64 o] 42)).size (.cells #[.int .i64 S, .int .i64 H] 37)).size (.cells #[.int .i64 0, .int .i64 0, .int .i64 0] 42))
  refine (right_yes h _ hR').mono ?_
  rintro e w1 ⟨rfl, hb1⟩
  clear hR'
  have hs1 : Below w.heap.size w w1 := Below.trans (by repeat (first | exact Below.refl _ _ | refine Below.alloc ?_ (by simp <;> omega) _)) (hb1.mono (by simp <;> omega))
  have c_by_0 : w1.cell? ⟨w.heap.size + 1, 0, none⟩ = some (.int .i64 S) := (hb1.cell (by simp <;> omega)).trans (by go_simp)
  have c_by_1 : w1.cell? ⟨w.heap.size + 1, 1, none⟩ = some (.int .i64 H) := (hb1.cell (by simp <;> omega)).trans (by go_simp)
  have c_r_0 : w1.cell? ⟨w.heap.size + 1 + 1, 0, none⟩ = some (.int .i64 0) := (hb1.cell (by simp <;> omega)).trans (by go_simp)
  have f_r_0 : w1.frozen? ⟨w.heap.size + 1 + 1, 0, none⟩ = false := (hb1.frozen (by simp <;> omega)).trans (by go_simp)
  have c_r_1 : w1.cell? ⟨w.heap.size + 1 + 1, 1, none⟩ = some (.int .i64 0) := (hb1.cell (by simp <;> omega)).trans (by go_simp)
  have f_r_1 : w1.frozen? ⟨w.heap.size + 1 + 1, 1, none⟩ = false := (hb1.frozen (by simp <;> omega)).trans (by go_simp)
  have c_r_2 : w1.cell? ⟨w.heap.size + 1 + 1, 2, none⟩ = some (.int .i64 0) := (hb1.cell (by simp <;> omega)).trans (by go_simp)
  have f_r_2 : w1.frozen? ⟨w.heap.size + 1 + 1, 2, none⟩ = false := (hb1.frozen (by simp <;> omega)).trans (by go_simp)
  have z_by := World.block_lt_of_cell? _ _ c_by_0
  have z_r := World.block_lt_of_cell? _ _ c_r_0
  have hB1 := below_two hB0 hs1
  clear hB0 hs1 hb1
  go_wp2_with fail
  refine (within_yes h2 h3 _).mono ?_
  rintro e wx ⟨rfl, rfl⟩
  go_wp2_with fail
  refine (within_no h4 _).mono ?_
  rintro e wx ⟨rfl, rfl⟩
  obtain ⟨m0, m1, m2⟩ := put3_of (x := .int .i64 0) (y := .int .i64 0) (z := .int .i64 0) c_r_0 c_r_1 c_r_2
  go_wp2
  exact bodyPost_ret (v := .tuple #[.agg #[.int .i64 0, .int .i64 0, .int .i64 0], .int .i64 20]) (by simp [results, Tryd.results34, go_sem, m0, m1, m2]) rfl ⟨rfl, put3_below hB1 (by omega)⟩

set_option maxRecDepth 100000 in
set_option maxHeartbeats 4000000 in
theorem up_no4 (s a o S H : Int) (w : World) (hR : Ready w) (h : Pit.IsRight s a o) (h2 : -127 ≤ S) (h3 : S ≤ 127) (h4 : -127 ≤ H) (h5 : H ≤ 127) (L A : Int) (HL : Hid (Pit.lin s o = L)) (hA : IntKind.i64.wrap (IntKind.i64.wrap (L + S) + 7) = A) (h6 : A < 0) :
    Calls Tryd.prog 34 #[pt s a o, iv S H] w fun e w' => e = .returned (pv 0 0 0 20) ∧ Below w.heap.size w w' := by
  have hB0 : Below w.heap.size w w := Below.refl _ _
  go_enter Tryd.func34, Tryd.ntmps34
  go_wp2_with fail
  have hR' := hR.below (((hB0.alloc hB0.size (.cells #[.int .i64 s, .int .i64 a, .int .i64 o] 42)).alloc (hB0.alloc hB0.size (.cells #[.int .i64 s, .int .i64 a, .int .i64 o] 42)).size (.cells #[.int .i64 S, .int .i64 H] 37)).alloc ((hB0.alloc hB0.size (.cells #[.int .i64 s, .int .i64 a, .int .i64 o] 42)).alloc (hB0.alloc hB0.size (.cells #[.int .i64 s, .int .i64 a, .int .i64 o] 42)).size (.cells #[.int .i64 S, .int .i64 H] 37)).size (.cells #[.int .i64 0, .int .i64 0, .int .i64 0] 42))
  refine (right_yes h _ hR').mono ?_
  rintro e w1 ⟨rfl, hb1⟩
  clear hR'
  have hs1 : Below w.heap.size w w1 := Below.trans (by repeat (first | exact Below.refl _ _ | refine Below.alloc ?_ (by simp <;> omega) _)) (hb1.mono (by simp <;> omega))
  have c_p_0 : w1.cell? ⟨w.heap.size, 0, none⟩ = some (.int .i64 s) := (hb1.cell (by simp <;> omega)).trans (by go_simp)
  have c_p_1 : w1.cell? ⟨w.heap.size, 1, none⟩ = some (.int .i64 a) := (hb1.cell (by simp <;> omega)).trans (by go_simp)
  have c_p_2 : w1.cell? ⟨w.heap.size, 2, none⟩ = some (.int .i64 o) := (hb1.cell (by simp <;> omega)).trans (by go_simp)
  have c_by_0 : w1.cell? ⟨w.heap.size + 1, 0, none⟩ = some (.int .i64 S) := (hb1.cell (by simp <;> omega)).trans (by go_simp)
  have c_by_1 : w1.cell? ⟨w.heap.size + 1, 1, none⟩ = some (.int .i64 H) := (hb1.cell (by simp <;> omega)).trans (by go_simp)
  have c_r_0 : w1.cell? ⟨w.heap.size + 1 + 1, 0, none⟩ = some (.int .i64 0) := (hb1.cell (by simp <;> omega)).trans (by go_simp)
  have f_r_0 : w1.frozen? ⟨w.heap.size + 1 + 1, 0, none⟩ = false := (hb1.frozen (by simp <;> omega)).trans (by go_simp)
  have c_r_1 : w1.cell? ⟨w.heap.size + 1 + 1, 1, none⟩ = some (.int .i64 0) := (hb1.cell (by simp <;> omega)).trans (by go_simp)
  have f_r_1 : w1.frozen? ⟨w.heap.size + 1 + 1, 1, none⟩ = false := (hb1.frozen (by simp <;> omega)).trans (by go_simp)
  have c_r_2 : w1.cell? ⟨w.heap.size + 1 + 1, 2, none⟩ = some (.int .i64 0) := (hb1.cell (by simp <;> omega)).trans (by go_simp)
  have f_r_2 : w1.frozen? ⟨w.heap.size + 1 + 1, 2, none⟩ = false := (hb1.frozen (by simp <;> omega)).trans (by go_simp)
  have z_by := World.block_lt_of_cell? _ _ c_by_0
  have z_p := World.block_lt_of_cell? _ _ c_p_0
  have z_r := World.block_lt_of_cell? _ _ c_r_0
  have hB1 := below_two hB0 hs1
  clear hB0 hs1 hb1
  go_wp2_with fail
  refine (within_yes h2 h3 _).mono ?_
  rintro e wx ⟨rfl, rfl⟩
  go_wp2_with fail
  refine (within_yes h4 h5 _).mono ?_
  rintro e wx ⟨rfl, rfl⟩
  go_wp2_with fail
  go_region_held3 (fun w' => w'.cell? ⟨w.heap.size, 0, none⟩ = some (.int .i64 s) ∧ w'.cell? ⟨w.heap.size, 1, none⟩ = some (.int .i64 a) ∧ w'.cell? ⟨w.heap.size, 2, none⟩ = some (.int .i64 o) ∧ w'.cell? ⟨w.heap.size + 1, 0, none⟩ = some (.int .i64 S) ∧ w'.cell? ⟨w.heap.size + 1, 1, none⟩ = some (.int .i64 H) ∧ w'.cell? ⟨w.heap.size + 1 + 1, 0, none⟩ = some (.int .i64 0) ∧ w'.frozen? ⟨w.heap.size + 1 + 1, 0, none⟩ = false ∧ w'.cell? ⟨w.heap.size + 1 + 1, 1, none⟩ = some (.int .i64 0) ∧ w'.frozen? ⟨w.heap.size + 1 + 1, 1, none⟩ = false ∧ w'.cell? ⟨w.heap.size + 1 + 1, 2, none⟩ = some (.int .i64 0) ∧ w'.frozen? ⟨w.heap.size + 1 + 1, 2, none⟩ = false ∧ Below w.heap.size w w')
    (((try go_split_ands); refine ⟨?_, ?_, ?_, ?_, ?_, ?_, ?_, ?_, ?_, ?_, ?_, ?_⟩ <;> first | with_reducible assumption | (with_reducible refine cell_later hq ?_; with_reducible assumption) | (with_reducible refine below_two ?_ hq; with_reducible assumption) | (with_reducible refine frozen_later (v := ?_) hq ?_ ?_; rotate_left; with_reducible assumption; with_reducible assumption) | with_reducible exact cell_drew c_p_0 | with_reducible exact cell_drew c_p_1 | with_reducible exact cell_drew c_p_2 | with_reducible exact cell_drew c_by_0 | with_reducible exact cell_drew c_by_1 | with_reducible exact cell_drew c_r_0 | with_reducible exact frozen_drew f_r_0 | with_reducible exact cell_drew c_r_1 | with_reducible exact frozen_drew f_r_1 | with_reducible exact cell_drew c_r_2 | with_reducible exact frozen_drew f_r_2 | with_reducible exact hB1.drew))
    (first
      | (go_at_call 48; refine (line_any _ _ _ _ h).mono ?_; rintro e w2 ⟨rfl, hq⟩; rw [HL.out]))
  rename_i hS
  clear c_p_0 c_p_1 c_p_2 c_by_0 c_by_1 c_r_0 c_r_1 c_r_2 f_r_0 f_r_1 f_r_2 hB1 z_by z_p z_r
  obtain ⟨c_p_0, c_p_1, c_p_2, c_by_0, c_by_1, c_r_0, f_r_0, c_r_1, f_r_1, c_r_2, f_r_2, hB2⟩ := hS
  have z_by := World.block_lt_of_cell? _ _ c_by_0
  have z_p := World.block_lt_of_cell? _ _ c_p_0
  have z_r := World.block_lt_of_cell? _ _ c_r_0
  obtain ⟨m0, m1, m2⟩ := put3_of (x := .int .i64 0) (y := .int .i64 0) (z := .int .i64 0) c_r_0 c_r_1 c_r_2
  go_wp2
  exact bodyPost_ret (v := .tuple #[.agg #[.int .i64 0, .int .i64 0, .int .i64 0], .int .i64 20]) (by simp [results, Tryd.results34, go_sem, m0, m1, m2]) rfl ⟨rfl, put3_below hB2 (by omega)⟩

set_option maxRecDepth 100000 in
set_option maxHeartbeats 4000000 in
theorem up_no5 (s a o S H : Int) (w : World) (hR : Ready w) (h : Pit.IsRight s a o) (h2 : -127 ≤ S) (h3 : S ≤ 127) (h4 : -127 ≤ H) (h5 : H ≤ 127) (L A : Int) (HL : Hid (Pit.lin s o = L)) (hA : IntKind.i64.wrap (IntKind.i64.wrap (L + S) + 7) = A) (h6 : ¬ A < 0) (R O N M X : Int) (hm : A.tmod 7 = R) (hm' : A % 7 = R) (D : Int) (hd : A.tdiv 7 = D) (hd' : A / 7 = D) (hO : D + -1 = O) (r0 : 0 ≤ R) (r6 : R ≤ 6) (o0 : -1 ≤ O) (o9 : O ≤ 100) (HN : Hid (Pit.num s a o = N)) (HM : Hid (Pit.num R 0 O = M)) (hX : IntKind.i64.wrap (IntKind.i64.wrap (N + H) - M) = X) (hQ : Pit.right R X O = false) :
    Calls Tryd.prog 34 #[pt s a o, iv S H] w fun e w' => e = .returned (pv 0 0 0 20) ∧ Below w.heap.size w w' := by
  have hB0 : Below w.heap.size w w := Below.refl _ _
  go_enter Tryd.func34, Tryd.ntmps34
  go_wp2_with fail
  have hR' := hR.below (((hB0.alloc hB0.size (.cells #[.int .i64 s, .int .i64 a, .int .i64 o] 42)).alloc (hB0.alloc hB0.size (.cells #[.int .i64 s, .int .i64 a, .int .i64 o] 42)).size (.cells #[.int .i64 S, .int .i64 H] 37)).alloc ((hB0.alloc hB0.size (.cells #[.int .i64 s, .int .i64 a, .int .i64 o] 42)).alloc (hB0.alloc hB0.size (.cells #[.int .i64 s, .int .i64 a, .int .i64 o] 42)).size (.cells #[.int .i64 S, .int .i64 H] 37)).size (.cells #[.int .i64 0, .int .i64 0, .int .i64 0] 42))
  refine (right_yes h _ hR').mono ?_
  rintro e w1 ⟨rfl, hb1⟩
  clear hR'
  have hs1 : Below w.heap.size w w1 := Below.trans (by repeat (first | exact Below.refl _ _ | refine Below.alloc ?_ (by simp <;> omega) _)) (hb1.mono (by simp <;> omega))
  have c_p_0 : w1.cell? ⟨w.heap.size, 0, none⟩ = some (.int .i64 s) := (hb1.cell (by simp <;> omega)).trans (by go_simp)
  have c_p_1 : w1.cell? ⟨w.heap.size, 1, none⟩ = some (.int .i64 a) := (hb1.cell (by simp <;> omega)).trans (by go_simp)
  have c_p_2 : w1.cell? ⟨w.heap.size, 2, none⟩ = some (.int .i64 o) := (hb1.cell (by simp <;> omega)).trans (by go_simp)
  have c_by_0 : w1.cell? ⟨w.heap.size + 1, 0, none⟩ = some (.int .i64 S) := (hb1.cell (by simp <;> omega)).trans (by go_simp)
  have c_by_1 : w1.cell? ⟨w.heap.size + 1, 1, none⟩ = some (.int .i64 H) := (hb1.cell (by simp <;> omega)).trans (by go_simp)
  have c_r_0 : w1.cell? ⟨w.heap.size + 1 + 1, 0, none⟩ = some (.int .i64 0) := (hb1.cell (by simp <;> omega)).trans (by go_simp)
  have f_r_0 : w1.frozen? ⟨w.heap.size + 1 + 1, 0, none⟩ = false := (hb1.frozen (by simp <;> omega)).trans (by go_simp)
  have c_r_1 : w1.cell? ⟨w.heap.size + 1 + 1, 1, none⟩ = some (.int .i64 0) := (hb1.cell (by simp <;> omega)).trans (by go_simp)
  have f_r_1 : w1.frozen? ⟨w.heap.size + 1 + 1, 1, none⟩ = false := (hb1.frozen (by simp <;> omega)).trans (by go_simp)
  have c_r_2 : w1.cell? ⟨w.heap.size + 1 + 1, 2, none⟩ = some (.int .i64 0) := (hb1.cell (by simp <;> omega)).trans (by go_simp)
  have f_r_2 : w1.frozen? ⟨w.heap.size + 1 + 1, 2, none⟩ = false := (hb1.frozen (by simp <;> omega)).trans (by go_simp)
  have z_by := World.block_lt_of_cell? _ _ c_by_0
  have z_p := World.block_lt_of_cell? _ _ c_p_0
  have z_r := World.block_lt_of_cell? _ _ c_r_0
  have hB1 := below_two hB0 hs1
  clear hB0 hs1 hb1
  go_wp2_with fail
  refine (within_yes h2 h3 _).mono ?_
  rintro e wx ⟨rfl, rfl⟩
  go_wp2_with fail
  refine (within_yes h4 h5 _).mono ?_
  rintro e wx ⟨rfl, rfl⟩
  go_wp2_with fail
  go_region_held3 (fun w' => w'.cell? ⟨w.heap.size, 0, none⟩ = some (.int .i64 s) ∧ w'.cell? ⟨w.heap.size, 1, none⟩ = some (.int .i64 a) ∧ w'.cell? ⟨w.heap.size, 2, none⟩ = some (.int .i64 o) ∧ w'.cell? ⟨w.heap.size + 1, 0, none⟩ = some (.int .i64 S) ∧ w'.cell? ⟨w.heap.size + 1, 1, none⟩ = some (.int .i64 H) ∧ w'.cell? ⟨w.heap.size + 1 + 1, 0, none⟩ = some (.int .i64 0) ∧ w'.frozen? ⟨w.heap.size + 1 + 1, 0, none⟩ = false ∧ w'.cell? ⟨w.heap.size + 1 + 1, 1, none⟩ = some (.int .i64 0) ∧ w'.frozen? ⟨w.heap.size + 1 + 1, 1, none⟩ = false ∧ w'.cell? ⟨w.heap.size + 1 + 1, 2, none⟩ = some (.int .i64 0) ∧ w'.frozen? ⟨w.heap.size + 1 + 1, 2, none⟩ = false ∧ Below w.heap.size w w')
    (((try go_split_ands); refine ⟨?_, ?_, ?_, ?_, ?_, ?_, ?_, ?_, ?_, ?_, ?_, ?_⟩ <;> first | with_reducible assumption | (with_reducible refine cell_later hq ?_; with_reducible assumption) | (with_reducible refine below_two ?_ hq; with_reducible assumption) | (with_reducible refine frozen_later (v := ?_) hq ?_ ?_; rotate_left; with_reducible assumption; with_reducible assumption) | with_reducible exact cell_drew c_p_0 | with_reducible exact cell_drew c_p_1 | with_reducible exact cell_drew c_p_2 | with_reducible exact cell_drew c_by_0 | with_reducible exact cell_drew c_by_1 | with_reducible exact cell_drew c_r_0 | with_reducible exact frozen_drew f_r_0 | with_reducible exact cell_drew c_r_1 | with_reducible exact frozen_drew f_r_1 | with_reducible exact cell_drew c_r_2 | with_reducible exact frozen_drew f_r_2 | with_reducible exact hB1.drew))
    (first
      | (go_at_call 48; refine (line_any _ _ _ _ h).mono ?_; rintro e w2 ⟨rfl, hq⟩; rw [HL.out]))
  rename_i hS
  clear c_p_0 c_p_1 c_p_2 c_by_0 c_by_1 c_r_0 c_r_1 c_r_2 f_r_0 f_r_1 f_r_2 hB1 z_by z_p z_r
  obtain ⟨c_p_0, c_p_1, c_p_2, c_by_0, c_by_1, c_r_0, f_r_0, c_r_1, f_r_1, c_r_2, f_r_2, hB2⟩ := hS
  have z_by := World.block_lt_of_cell? _ _ c_by_0
  have z_p := World.block_lt_of_cell? _ _ c_p_0
  have z_r := World.block_lt_of_cell? _ _ c_r_0
  go_wp2_with fail
  have hs3 : Below w2.heap.size w2 (w2.alloc (.cells #[.int .i64 R, .int .i64 0, .int .i64 O] 42)) := by repeat (first | exact Below.refl _ _ | refine Below.alloc ?_ (by simp <;> omega) _)
  replace c_p_0 := cell_later hs3 c_p_0
  replace c_p_1 := cell_later hs3 c_p_1
  replace c_p_2 := cell_later hs3 c_p_2
  replace c_by_0 := cell_later hs3 c_by_0
  replace c_by_1 := cell_later hs3 c_by_1
  replace f_r_0 := frozen_later hs3 c_r_0 f_r_0
  replace c_r_0 := cell_later hs3 c_r_0
  replace f_r_1 := frozen_later hs3 c_r_1 f_r_1
  replace c_r_1 := cell_later hs3 c_r_1
  replace f_r_2 := frozen_later hs3 c_r_2 f_r_2
  replace c_r_2 := cell_later hs3 c_r_2
  have c_q_0 : (w2.alloc (.cells #[.int .i64 R, .int .i64 0, .int .i64 O] 42)).cell? ⟨w2.heap.size, 0, none⟩ = some (.int .i64 R) := by go_simp
  have f_q_0 : (w2.alloc (.cells #[.int .i64 R, .int .i64 0, .int .i64 O] 42)).frozen? ⟨w2.heap.size, 0, none⟩ = false := by go_simp
  have c_q_1 : (w2.alloc (.cells #[.int .i64 R, .int .i64 0, .int .i64 O] 42)).cell? ⟨w2.heap.size, 1, none⟩ = some (.int .i64 0) := by go_simp
  have f_q_1 : (w2.alloc (.cells #[.int .i64 R, .int .i64 0, .int .i64 O] 42)).frozen? ⟨w2.heap.size, 1, none⟩ = false := by go_simp
  have c_q_2 : (w2.alloc (.cells #[.int .i64 R, .int .i64 0, .int .i64 O] 42)).cell? ⟨w2.heap.size, 2, none⟩ = some (.int .i64 O) := by go_simp
  have f_q_2 : (w2.alloc (.cells #[.int .i64 R, .int .i64 0, .int .i64 O] 42)).frozen? ⟨w2.heap.size, 2, none⟩ = false := by go_simp
  have hB3 := below_two hB2 hs3
  clear hB2 hs3
  have y3_by := z_by
  have y3_p := z_p
  have y3_r := z_r
  generalize (w2.alloc (.cells #[.int .i64 R, .int .i64 0, .int .i64 O] 42)) = w3 at *
  clear z_by
  have z_by := World.block_lt_of_cell? _ _ c_by_0
  clear z_p
  have z_p := World.block_lt_of_cell? _ _ c_p_0
  have z_q := World.block_lt_of_cell? _ _ c_q_0
  clear z_r
  have z_r := World.block_lt_of_cell? _ _ c_r_0
  go_region_held3 (fun w' => w'.cell? ⟨w.heap.size, 0, none⟩ = some (.int .i64 s) ∧ w'.cell? ⟨w.heap.size, 1, none⟩ = some (.int .i64 a) ∧ w'.cell? ⟨w.heap.size, 2, none⟩ = some (.int .i64 o) ∧ w'.cell? ⟨w.heap.size + 1, 0, none⟩ = some (.int .i64 S) ∧ w'.cell? ⟨w.heap.size + 1, 1, none⟩ = some (.int .i64 H) ∧ w'.cell? ⟨w.heap.size + 1 + 1, 0, none⟩ = some (.int .i64 0) ∧ w'.frozen? ⟨w.heap.size + 1 + 1, 0, none⟩ = false ∧ w'.cell? ⟨w.heap.size + 1 + 1, 1, none⟩ = some (.int .i64 0) ∧ w'.frozen? ⟨w.heap.size + 1 + 1, 1, none⟩ = false ∧ w'.cell? ⟨w.heap.size + 1 + 1, 2, none⟩ = some (.int .i64 0) ∧ w'.frozen? ⟨w.heap.size + 1 + 1, 2, none⟩ = false ∧ w'.cell? ⟨w2.heap.size, 0, none⟩ = some (.int .i64 R) ∧ w'.frozen? ⟨w2.heap.size, 0, none⟩ = false ∧ w'.cell? ⟨w2.heap.size, 1, none⟩ = some (heldAt w' ⟨w2.heap.size, 1, none⟩) ∧ w'.frozen? ⟨w2.heap.size, 1, none⟩ = false ∧ w'.cell? ⟨w2.heap.size, 2, none⟩ = some (.int .i64 O) ∧ w'.frozen? ⟨w2.heap.size, 2, none⟩ = false ∧ Below w.heap.size w w')
    (((try go_split_ands); refine ⟨?_, ?_, ?_, ?_, ?_, ?_, ?_, ?_, ?_, ?_, ?_, ?_, ?_, ?_, ?_, ?_, ?_, ?_⟩ <;> first | with_reducible assumption | (with_reducible refine cell_later hq ?_; with_reducible assumption) | (with_reducible refine below_two ?_ hq; with_reducible assumption) | (with_reducible refine frozen_later (v := ?_) hq ?_ ?_; rotate_left; with_reducible assumption; with_reducible assumption) | (with_reducible refine held_later hq ?_; with_reducible assumption) | (with_reducible refine frozen_held hq ?_ ?_ <;> with_reducible assumption) | (with_reducible refine set_far ?_ ?_; omega; with_reducible assumption) | (with_reducible refine set_beside ?_ ?_; decide; with_reducible assumption) | (with_reducible refine set_held ?_; with_reducible assumption) | (with_reducible refine set_frozen ?_; with_reducible assumption) | (with_reducible refine set1_below ?_ ?_; with_reducible assumption; omega) | with_reducible exact cell_drew c_p_0 | with_reducible exact cell_drew c_p_1 | with_reducible exact cell_drew c_p_2 | with_reducible exact cell_drew c_by_0 | with_reducible exact cell_drew c_by_1 | with_reducible exact cell_drew c_r_0 | with_reducible exact frozen_drew f_r_0 | with_reducible exact cell_drew c_r_1 | with_reducible exact frozen_drew f_r_1 | with_reducible exact cell_drew c_r_2 | with_reducible exact frozen_drew f_r_2 | with_reducible exact cell_drew c_q_0 | with_reducible exact frozen_drew f_q_0 | with_reducible exact held_drew (held_of c_q_1) | with_reducible exact frozen_drew f_q_1 | with_reducible exact cell_drew c_q_2 | with_reducible exact frozen_drew f_q_2 | with_reducible exact hB3.drew))
    (first
      | (go_at_call 46; (try go_split_ands); refine (number_right h _ (hR.below ?_)).mono ?_; assumption; rintro e w4 ⟨rfl, hq⟩; rw [HN.out])
      | (go_at_call 49; (try go_split_ands); refine (natural_any _ _ _ (hR.below ?_) r0 r6 o0 o9).mono ?_; assumption; rintro e w4 ⟨rfl, hq⟩; rw [HM.out]))
  rename_i hS
  clear c_p_0 c_p_1 c_p_2 c_by_0 c_by_1 c_r_0 c_r_1 c_r_2 c_q_0 c_q_1 c_q_2 f_r_0 f_r_1 f_r_2 f_q_0 f_q_1 f_q_2 hB3 z_by z_p z_q z_r
  obtain ⟨c_p_0, c_p_1, c_p_2, c_by_0, c_by_1, c_r_0, f_r_0, c_r_1, f_r_1, c_r_2, f_r_2, c_q_0, f_q_0, h_c_q_1, f_c_q_1, c_q_2, f_q_2, hB4⟩ := hS
  have c_q_1 := set_back h_c_q_1
  clear h_c_q_1
  rw [hX] at *
  generalize w4.setCell ⟨w2.heap.size, 1, none⟩ (.int .i64 X) = w5 at *
  have hB5 := hB4
  clear hB4
  have z_by := World.block_lt_of_cell? _ _ c_by_0
  have z_p := World.block_lt_of_cell? _ _ c_p_0
  have z_q := World.block_lt_of_cell? _ _ c_q_0
  have z_r := World.block_lt_of_cell? _ _ c_r_0
  go_wp2_with fail
  have hR' := hR.below hB5
  refine (right_no hQ _ hR').mono ?_
  rintro e w6 ⟨rfl, hb6⟩
  clear hR'
  have hs6 := hb6
  clear c_p_0
  clear c_p_1
  clear c_p_2
  clear c_by_0
  clear c_by_1
  clear c_q_0
  clear f_q_0
  clear c_q_2
  clear f_q_2
  clear c_q_1
  replace f_r_0 := frozen_later hs6 c_r_0 f_r_0
  replace c_r_0 := cell_later hs6 c_r_0
  replace f_r_1 := frozen_later hs6 c_r_1 f_r_1
  replace c_r_1 := cell_later hs6 c_r_1
  replace f_r_2 := frozen_later hs6 c_r_2 f_r_2
  replace c_r_2 := cell_later hs6 c_r_2
  clear z_r
  have z_r := World.block_lt_of_cell? _ _ c_r_0
  clear z_by
  clear z_p
  clear z_q
  have hB6 := below_two hB5 hs6
  clear hB5 hs6
  obtain ⟨m0, m1, m2⟩ := put3_of (x := .int .i64 0) (y := .int .i64 0) (z := .int .i64 0) c_r_0 c_r_1 c_r_2
  go_wp2
  exact bodyPost_ret (v := .tuple #[.agg #[.int .i64 0, .int .i64 0, .int .i64 0], .int .i64 20]) (by simp [results, Tryd.results34, go_sem, m0, m1, m2]) rfl ⟨rfl, put3_below hB6 (by omega)⟩

set_option maxRecDepth 100000 in
set_option maxHeartbeats 4000000 in
theorem up_yes (s a o S H : Int) (w : World) (hR : Ready w) (h : Pit.IsRight s a o) (h2 : -127 ≤ S) (h3 : S ≤ 127) (h4 : -127 ≤ H) (h5 : H ≤ 127) (L A : Int) (HL : Hid (Pit.lin s o = L)) (hA : IntKind.i64.wrap (IntKind.i64.wrap (L + S) + 7) = A) (h6 : ¬ A < 0) (R O N M X : Int) (hm : A.tmod 7 = R) (hm' : A % 7 = R) (D : Int) (hd : A.tdiv 7 = D) (hd' : A / 7 = D) (hO : D + -1 = O) (r0 : 0 ≤ R) (r6 : R ≤ 6) (o0 : -1 ≤ O) (o9 : O ≤ 100) (HN : Hid (Pit.num s a o = N)) (HM : Hid (Pit.num R 0 O = M)) (hX : IntKind.i64.wrap (IntKind.i64.wrap (N + H) - M) = X) (hQ : Pit.IsRight R X O) :
    Calls Tryd.prog 34 #[pt s a o, iv S H] w fun e w' => e = .returned (pv R X O 0) ∧ Below w.heap.size w w' := by
  have hB0 : Below w.heap.size w w := Below.refl _ _
  go_enter Tryd.func34, Tryd.ntmps34
  go_wp2_with fail
  have hR' := hR.below (((hB0.alloc hB0.size (.cells #[.int .i64 s, .int .i64 a, .int .i64 o] 42)).alloc (hB0.alloc hB0.size (.cells #[.int .i64 s, .int .i64 a, .int .i64 o] 42)).size (.cells #[.int .i64 S, .int .i64 H] 37)).alloc ((hB0.alloc hB0.size (.cells #[.int .i64 s, .int .i64 a, .int .i64 o] 42)).alloc (hB0.alloc hB0.size (.cells #[.int .i64 s, .int .i64 a, .int .i64 o] 42)).size (.cells #[.int .i64 S, .int .i64 H] 37)).size (.cells #[.int .i64 0, .int .i64 0, .int .i64 0] 42))
  refine (right_yes h _ hR').mono ?_
  rintro e w1 ⟨rfl, hb1⟩
  clear hR'
  have hs1 : Below w.heap.size w w1 := Below.trans (by repeat (first | exact Below.refl _ _ | refine Below.alloc ?_ (by simp <;> omega) _)) (hb1.mono (by simp <;> omega))
  have c_p_0 : w1.cell? ⟨w.heap.size, 0, none⟩ = some (.int .i64 s) := (hb1.cell (by simp <;> omega)).trans (by go_simp)
  have c_p_1 : w1.cell? ⟨w.heap.size, 1, none⟩ = some (.int .i64 a) := (hb1.cell (by simp <;> omega)).trans (by go_simp)
  have c_p_2 : w1.cell? ⟨w.heap.size, 2, none⟩ = some (.int .i64 o) := (hb1.cell (by simp <;> omega)).trans (by go_simp)
  have c_by_0 : w1.cell? ⟨w.heap.size + 1, 0, none⟩ = some (.int .i64 S) := (hb1.cell (by simp <;> omega)).trans (by go_simp)
  have c_by_1 : w1.cell? ⟨w.heap.size + 1, 1, none⟩ = some (.int .i64 H) := (hb1.cell (by simp <;> omega)).trans (by go_simp)
  have c_r_0 : w1.cell? ⟨w.heap.size + 1 + 1, 0, none⟩ = some (.int .i64 0) := (hb1.cell (by simp <;> omega)).trans (by go_simp)
  have f_r_0 : w1.frozen? ⟨w.heap.size + 1 + 1, 0, none⟩ = false := (hb1.frozen (by simp <;> omega)).trans (by go_simp)
  have c_r_1 : w1.cell? ⟨w.heap.size + 1 + 1, 1, none⟩ = some (.int .i64 0) := (hb1.cell (by simp <;> omega)).trans (by go_simp)
  have f_r_1 : w1.frozen? ⟨w.heap.size + 1 + 1, 1, none⟩ = false := (hb1.frozen (by simp <;> omega)).trans (by go_simp)
  have c_r_2 : w1.cell? ⟨w.heap.size + 1 + 1, 2, none⟩ = some (.int .i64 0) := (hb1.cell (by simp <;> omega)).trans (by go_simp)
  have f_r_2 : w1.frozen? ⟨w.heap.size + 1 + 1, 2, none⟩ = false := (hb1.frozen (by simp <;> omega)).trans (by go_simp)
  have z_by := World.block_lt_of_cell? _ _ c_by_0
  have z_p := World.block_lt_of_cell? _ _ c_p_0
  have z_r := World.block_lt_of_cell? _ _ c_r_0
  have hB1 := below_two hB0 hs1
  clear hB0 hs1 hb1
  go_wp2_with fail
  refine (within_yes h2 h3 _).mono ?_
  rintro e wx ⟨rfl, rfl⟩
  go_wp2_with fail
  refine (within_yes h4 h5 _).mono ?_
  rintro e wx ⟨rfl, rfl⟩
  go_wp2_with fail
  go_region_held3 (fun w' => w'.cell? ⟨w.heap.size, 0, none⟩ = some (.int .i64 s) ∧ w'.cell? ⟨w.heap.size, 1, none⟩ = some (.int .i64 a) ∧ w'.cell? ⟨w.heap.size, 2, none⟩ = some (.int .i64 o) ∧ w'.cell? ⟨w.heap.size + 1, 0, none⟩ = some (.int .i64 S) ∧ w'.cell? ⟨w.heap.size + 1, 1, none⟩ = some (.int .i64 H) ∧ w'.cell? ⟨w.heap.size + 1 + 1, 0, none⟩ = some (.int .i64 0) ∧ w'.frozen? ⟨w.heap.size + 1 + 1, 0, none⟩ = false ∧ w'.cell? ⟨w.heap.size + 1 + 1, 1, none⟩ = some (.int .i64 0) ∧ w'.frozen? ⟨w.heap.size + 1 + 1, 1, none⟩ = false ∧ w'.cell? ⟨w.heap.size + 1 + 1, 2, none⟩ = some (.int .i64 0) ∧ w'.frozen? ⟨w.heap.size + 1 + 1, 2, none⟩ = false ∧ Below w.heap.size w w')
    (((try go_split_ands); refine ⟨?_, ?_, ?_, ?_, ?_, ?_, ?_, ?_, ?_, ?_, ?_, ?_⟩ <;> first | with_reducible assumption | (with_reducible refine cell_later hq ?_; with_reducible assumption) | (with_reducible refine below_two ?_ hq; with_reducible assumption) | (with_reducible refine frozen_later (v := ?_) hq ?_ ?_; rotate_left; with_reducible assumption; with_reducible assumption) | with_reducible exact cell_drew c_p_0 | with_reducible exact cell_drew c_p_1 | with_reducible exact cell_drew c_p_2 | with_reducible exact cell_drew c_by_0 | with_reducible exact cell_drew c_by_1 | with_reducible exact cell_drew c_r_0 | with_reducible exact frozen_drew f_r_0 | with_reducible exact cell_drew c_r_1 | with_reducible exact frozen_drew f_r_1 | with_reducible exact cell_drew c_r_2 | with_reducible exact frozen_drew f_r_2 | with_reducible exact hB1.drew))
    (first
      | (go_at_call 48; refine (line_any _ _ _ _ h).mono ?_; rintro e w2 ⟨rfl, hq⟩; rw [HL.out]))
  rename_i hS
  clear c_p_0 c_p_1 c_p_2 c_by_0 c_by_1 c_r_0 c_r_1 c_r_2 f_r_0 f_r_1 f_r_2 hB1 z_by z_p z_r
  obtain ⟨c_p_0, c_p_1, c_p_2, c_by_0, c_by_1, c_r_0, f_r_0, c_r_1, f_r_1, c_r_2, f_r_2, hB2⟩ := hS
  have z_by := World.block_lt_of_cell? _ _ c_by_0
  have z_p := World.block_lt_of_cell? _ _ c_p_0
  have z_r := World.block_lt_of_cell? _ _ c_r_0
  go_wp2_with fail
  have hs3 : Below w2.heap.size w2 (w2.alloc (.cells #[.int .i64 R, .int .i64 0, .int .i64 O] 42)) := by repeat (first | exact Below.refl _ _ | refine Below.alloc ?_ (by simp <;> omega) _)
  replace c_p_0 := cell_later hs3 c_p_0
  replace c_p_1 := cell_later hs3 c_p_1
  replace c_p_2 := cell_later hs3 c_p_2
  replace c_by_0 := cell_later hs3 c_by_0
  replace c_by_1 := cell_later hs3 c_by_1
  replace f_r_0 := frozen_later hs3 c_r_0 f_r_0
  replace c_r_0 := cell_later hs3 c_r_0
  replace f_r_1 := frozen_later hs3 c_r_1 f_r_1
  replace c_r_1 := cell_later hs3 c_r_1
  replace f_r_2 := frozen_later hs3 c_r_2 f_r_2
  replace c_r_2 := cell_later hs3 c_r_2
  have c_q_0 : (w2.alloc (.cells #[.int .i64 R, .int .i64 0, .int .i64 O] 42)).cell? ⟨w2.heap.size, 0, none⟩ = some (.int .i64 R) := by go_simp
  have f_q_0 : (w2.alloc (.cells #[.int .i64 R, .int .i64 0, .int .i64 O] 42)).frozen? ⟨w2.heap.size, 0, none⟩ = false := by go_simp
  have c_q_1 : (w2.alloc (.cells #[.int .i64 R, .int .i64 0, .int .i64 O] 42)).cell? ⟨w2.heap.size, 1, none⟩ = some (.int .i64 0) := by go_simp
  have f_q_1 : (w2.alloc (.cells #[.int .i64 R, .int .i64 0, .int .i64 O] 42)).frozen? ⟨w2.heap.size, 1, none⟩ = false := by go_simp
  have c_q_2 : (w2.alloc (.cells #[.int .i64 R, .int .i64 0, .int .i64 O] 42)).cell? ⟨w2.heap.size, 2, none⟩ = some (.int .i64 O) := by go_simp
  have f_q_2 : (w2.alloc (.cells #[.int .i64 R, .int .i64 0, .int .i64 O] 42)).frozen? ⟨w2.heap.size, 2, none⟩ = false := by go_simp
  have hB3 := below_two hB2 hs3
  clear hB2 hs3
  have y3_by := z_by
  have y3_p := z_p
  have y3_r := z_r
  generalize (w2.alloc (.cells #[.int .i64 R, .int .i64 0, .int .i64 O] 42)) = w3 at *
  clear z_by
  have z_by := World.block_lt_of_cell? _ _ c_by_0
  clear z_p
  have z_p := World.block_lt_of_cell? _ _ c_p_0
  have z_q := World.block_lt_of_cell? _ _ c_q_0
  clear z_r
  have z_r := World.block_lt_of_cell? _ _ c_r_0
  go_region_held3 (fun w' => w'.cell? ⟨w.heap.size, 0, none⟩ = some (.int .i64 s) ∧ w'.cell? ⟨w.heap.size, 1, none⟩ = some (.int .i64 a) ∧ w'.cell? ⟨w.heap.size, 2, none⟩ = some (.int .i64 o) ∧ w'.cell? ⟨w.heap.size + 1, 0, none⟩ = some (.int .i64 S) ∧ w'.cell? ⟨w.heap.size + 1, 1, none⟩ = some (.int .i64 H) ∧ w'.cell? ⟨w.heap.size + 1 + 1, 0, none⟩ = some (.int .i64 0) ∧ w'.frozen? ⟨w.heap.size + 1 + 1, 0, none⟩ = false ∧ w'.cell? ⟨w.heap.size + 1 + 1, 1, none⟩ = some (.int .i64 0) ∧ w'.frozen? ⟨w.heap.size + 1 + 1, 1, none⟩ = false ∧ w'.cell? ⟨w.heap.size + 1 + 1, 2, none⟩ = some (.int .i64 0) ∧ w'.frozen? ⟨w.heap.size + 1 + 1, 2, none⟩ = false ∧ w'.cell? ⟨w2.heap.size, 0, none⟩ = some (.int .i64 R) ∧ w'.frozen? ⟨w2.heap.size, 0, none⟩ = false ∧ w'.cell? ⟨w2.heap.size, 1, none⟩ = some (heldAt w' ⟨w2.heap.size, 1, none⟩) ∧ w'.frozen? ⟨w2.heap.size, 1, none⟩ = false ∧ w'.cell? ⟨w2.heap.size, 2, none⟩ = some (.int .i64 O) ∧ w'.frozen? ⟨w2.heap.size, 2, none⟩ = false ∧ Below w.heap.size w w')
    (((try go_split_ands); refine ⟨?_, ?_, ?_, ?_, ?_, ?_, ?_, ?_, ?_, ?_, ?_, ?_, ?_, ?_, ?_, ?_, ?_, ?_⟩ <;> first | with_reducible assumption | (with_reducible refine cell_later hq ?_; with_reducible assumption) | (with_reducible refine below_two ?_ hq; with_reducible assumption) | (with_reducible refine frozen_later (v := ?_) hq ?_ ?_; rotate_left; with_reducible assumption; with_reducible assumption) | (with_reducible refine held_later hq ?_; with_reducible assumption) | (with_reducible refine frozen_held hq ?_ ?_ <;> with_reducible assumption) | (with_reducible refine set_far ?_ ?_; omega; with_reducible assumption) | (with_reducible refine set_beside ?_ ?_; decide; with_reducible assumption) | (with_reducible refine set_held ?_; with_reducible assumption) | (with_reducible refine set_frozen ?_; with_reducible assumption) | (with_reducible refine set1_below ?_ ?_; with_reducible assumption; omega) | with_reducible exact cell_drew c_p_0 | with_reducible exact cell_drew c_p_1 | with_reducible exact cell_drew c_p_2 | with_reducible exact cell_drew c_by_0 | with_reducible exact cell_drew c_by_1 | with_reducible exact cell_drew c_r_0 | with_reducible exact frozen_drew f_r_0 | with_reducible exact cell_drew c_r_1 | with_reducible exact frozen_drew f_r_1 | with_reducible exact cell_drew c_r_2 | with_reducible exact frozen_drew f_r_2 | with_reducible exact cell_drew c_q_0 | with_reducible exact frozen_drew f_q_0 | with_reducible exact held_drew (held_of c_q_1) | with_reducible exact frozen_drew f_q_1 | with_reducible exact cell_drew c_q_2 | with_reducible exact frozen_drew f_q_2 | with_reducible exact hB3.drew))
    (first
      | (go_at_call 46; (try go_split_ands); refine (number_right h _ (hR.below ?_)).mono ?_; assumption; rintro e w4 ⟨rfl, hq⟩; rw [HN.out])
      | (go_at_call 49; (try go_split_ands); refine (natural_any _ _ _ (hR.below ?_) r0 r6 o0 o9).mono ?_; assumption; rintro e w4 ⟨rfl, hq⟩; rw [HM.out]))
  rename_i hS
  clear c_p_0 c_p_1 c_p_2 c_by_0 c_by_1 c_r_0 c_r_1 c_r_2 c_q_0 c_q_1 c_q_2 f_r_0 f_r_1 f_r_2 f_q_0 f_q_1 f_q_2 hB3 z_by z_p z_q z_r
  obtain ⟨c_p_0, c_p_1, c_p_2, c_by_0, c_by_1, c_r_0, f_r_0, c_r_1, f_r_1, c_r_2, f_r_2, c_q_0, f_q_0, h_c_q_1, f_c_q_1, c_q_2, f_q_2, hB4⟩ := hS
  have c_q_1 := set_back h_c_q_1
  clear h_c_q_1
  rw [hX] at *
  generalize w4.setCell ⟨w2.heap.size, 1, none⟩ (.int .i64 X) = w5 at *
  have hB5 := hB4
  clear hB4
  have z_by := World.block_lt_of_cell? _ _ c_by_0
  have z_p := World.block_lt_of_cell? _ _ c_p_0
  have z_q := World.block_lt_of_cell? _ _ c_q_0
  have z_r := World.block_lt_of_cell? _ _ c_r_0
  go_wp2_with fail
  have hR' := hR.below hB5
  refine (right_yes hQ _ hR').mono ?_
  rintro e w6 ⟨rfl, hb6⟩
  clear hR'
  have hs6 := hb6
  clear c_p_0
  clear c_p_1
  clear c_p_2
  clear c_by_0
  clear c_by_1
  replace f_r_0 := frozen_later hs6 c_r_0 f_r_0
  replace c_r_0 := cell_later hs6 c_r_0
  replace f_r_1 := frozen_later hs6 c_r_1 f_r_1
  replace c_r_1 := cell_later hs6 c_r_1
  replace f_r_2 := frozen_later hs6 c_r_2 f_r_2
  replace c_r_2 := cell_later hs6 c_r_2
  replace f_q_0 := frozen_later hs6 c_q_0 f_q_0
  replace c_q_0 := cell_later hs6 c_q_0
  replace f_q_2 := frozen_later hs6 c_q_2 f_q_2
  replace c_q_2 := cell_later hs6 c_q_2
  replace c_q_1 := cell_later hs6 c_q_1
  clear z_q
  have z_q := World.block_lt_of_cell? _ _ c_q_0
  clear z_r
  have z_r := World.block_lt_of_cell? _ _ c_r_0
  clear z_by
  clear z_p
  have hB6 := below_two hB5 hs6
  clear hB5 hs6
  obtain ⟨m0, m1, m2⟩ := put3_of (x := .int .i64 R) (y := .int .i64 X) (z := .int .i64 O) c_r_0 c_r_1 c_r_2
  go_wp2
  exact bodyPost_ret (v := .tuple #[.agg #[.int .i64 R, .int .i64 X, .int .i64 O], .int .i64 0]) (by simp [results, Tryd.results34, go_sem, m0, m1, m2]) rfl ⟨rfl, put3_below hB6 (by omega)⟩

/-- What Up answers. -/
def upV (x : Option (Int × Int × Int)) : Value := match x with | some (s, a, o) => pv s a o 0 | none => pv 0 0 0 20
theorem up_val1 {s a o S H : Int} (h : Pit.right s a o = false) : Pit.up s a o S H = none := by
  unfold Pit.up Pit.upOk; rw [h]; rfl
theorem up_val2 {s a o S H : Int} (h : ¬ (-127 ≤ S ∧ S ≤ 127 ∧ -127 ≤ H ∧ H ≤ 127 ∧ 0 ≤ Pit.lin s o + S + 7)) : Pit.up s a o S H = none := by
  unfold Pit.up Pit.upOk; rw [decide_eq_false h]; simp
theorem up_val3 {s a o S H : Int} (h1 : Pit.right s a o = true) (h : -127 ≤ S ∧ S ≤ 127 ∧ -127 ≤ H ∧ H ≤ 127 ∧ 0 ≤ Pit.lin s o + S + 7) : Pit.up s a o S H = if Pit.right (Pit.upS s o S) (Pit.upA s a o S H) (Pit.upO s o S) then some (Pit.upS s o S, Pit.upA s a o S H, Pit.upO s o S) else none := by
  unfold Pit.up Pit.upOk; rw [decide_eq_true h, h1]; simp
theorem up_any (s a o S H : Int) (w : World) (hR : Ready w) :
    Calls Tryd.prog 34 #[pt s a o, iv S H] w fun e w' => e = .returned (upV (Pit.up s a o S H)) ∧ Below w.heap.size w w' := by
  cases h1 : Pit.right s a o with
  | false => rw [up_val1 h1]; exact up_no1 s a o S H w hR h1
  | true =>
    have h := (Pit.right_iff _ _ _).1 h1
    by_cases hS : -127 ≤ S ∧ S ≤ 127
    · by_cases hH : -127 ≤ H ∧ H ≤ 127
      · obtain ⟨l0, l1⟩ := lin_bounds h
        have hA : IntKind.i64.wrap (IntKind.i64.wrap (Pit.lin s o + S) + 7) = Pit.lin s o + S + 7 := by rw [IntWalk.i64_in (Pit.lin s o + S) (by omega), IntWalk.i64_in _ (by omega)]
        by_cases hA0 : Pit.lin s o + S + 7 < 0
        · rw [up_val2 (fun x => by omega)]
          exact up_no4 s a o S H w hR h hS.1 hS.2 hH.1 hH.2 _ _ (Lib.hid rfl) hA hA0
        · rw [up_val3 h1 ⟨hS.1, hS.2, hH.1, hH.2, by omega⟩]
          have n0 := h.n0
          have nM := h.nM
          have r0 : 0 ≤ Pit.upS s o S := by unfold Pit.upS; omega
          have r6 : Pit.upS s o S ≤ 6 := by unfold Pit.upS; omega
          have o0 : -1 ≤ Pit.upO s o S := by unfold Pit.upO; omega
          have o9 : Pit.upO s o S ≤ 100 := by unfold Pit.upO; omega
          have hm' : (Pit.lin s o + S + 7) % 7 = Pit.upS s o S := rfl
          have hm : (Pit.lin s o + S + 7).tmod 7 = Pit.upS s o S := by rw [Int.tmod_eq_emod_of_nonneg (by omega)]; exact hm'
          have hd : (Pit.lin s o + S + 7).tdiv 7 = (Pit.lin s o + S + 7) / 7 := Int.tdiv_eq_ediv_of_nonneg (by omega)
          have hO : (Pit.lin s o + S + 7) / 7 + -1 = Pit.upO s o S := by unfold Pit.upO; omega
          have hM : -200 ≤ Pit.num (Pit.upS s o S) 0 (Pit.upO s o S) ∧ Pit.num (Pit.upS s o S) 0 (Pit.upO s o S) ≤ 2000 := by
            rw [Pit.num_eq]
            rcases Pit.hv_cases (Pit.upS s o S) with ⟨_, e⟩ | ⟨_, e⟩ <;> omega
          have hX : IntKind.i64.wrap (IntKind.i64.wrap (Pit.num s a o + H) - Pit.num (Pit.upS s o S) 0 (Pit.upO s o S)) = Pit.upA s a o S H := by
            rw [IntWalk.i64_in (Pit.num s a o + H) (by omega), IntWalk.i64_in _ (by omega)]; rfl
          cases hQ : Pit.right (Pit.upS s o S) (Pit.upA s a o S H) (Pit.upO s o S) with
          | false => exact up_no5 s a o S H w hR h hS.1 hS.2 hH.1 hH.2 _ _ (Lib.hid rfl) hA hA0 _ _ _ _ _ hm hm' _ hd rfl hO r0 r6 o0 o9 (Lib.hid rfl) (Lib.hid rfl) hX hQ
          | true => exact up_yes s a o S H w hR h hS.1 hS.2 hH.1 hH.2 _ _ (Lib.hid rfl) hA hA0 _ _ _ _ _ hm hm' _ hd rfl hO r0 r6 o0 o9 (Lib.hid rfl) (Lib.hid rfl) hX ((Pit.right_iff _ _ _).1 hQ)
      · rw [up_val2 (fun x => hH ⟨x.2.2.1, x.2.2.2.1⟩)]
        exact up_no3 s a o S H w hR h hS.1 hS.2 hH
    · rw [up_val2 (fun x => hS ⟨x.1, x.2.1⟩)]
      exact up_no2 s a o S H w hR h hS
end Go.Proofs.YtahcbgngdpjhkaaDoor
