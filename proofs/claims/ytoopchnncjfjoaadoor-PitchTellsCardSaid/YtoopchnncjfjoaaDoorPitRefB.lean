/-
  The contract of the reference's Up.
-/
import Derived.Test.YtoopchnncjfjoaaDoorPitC
import Derived.Test.YtoopchnncjfjoaaDoorPitRefA
namespace Go.Proofs.YtoopchnncjfjoaaDoor
open Go.RowKit

/-- What the loop of the reference's Up keeps. -/
structure UpW (w : World) (S H : Int) (wr : World) : Prop where
  b0 : wr.cell? ⟨w.heap.size + 1, 0, none⟩ = some (.int .i64 S)
  b1 : wr.cell? ⟨w.heap.size + 1, 1, none⟩ = some (.int .i64 H)
  r0 : wr.cell? ⟨w.heap.size + 1 + 1, 0, none⟩ = some (.int .i64 0)
  r1 : wr.cell? ⟨w.heap.size + 1 + 1, 1, none⟩ = some (.int .i64 0)
  r2 : wr.cell? ⟨w.heap.size + 1 + 1, 2, none⟩ = some (.int .i64 0)
  f0 : wr.frozen? ⟨w.heap.size + 1 + 1, 0, none⟩ = false
  f1 : wr.frozen? ⟨w.heap.size + 1 + 1, 1, none⟩ = false
  f2 : wr.frozen? ⟨w.heap.size + 1 + 1, 2, none⟩ = false
  below : Below w.heap.size w wr
theorem UpW.later {w : World} {S H : Int} {wr wx : World} (h : UpW w S H wr) (hb : Below wr.heap.size wr wx) : UpW w S H wx :=
  ⟨cell_later hb h.b0, cell_later hb h.b1, cell_later hb h.r0, cell_later hb h.r1, cell_later hb h.r2, frozen_later hb h.r0 h.f0, frozen_later hb h.r1 h.f1, frozen_later hb h.r2 h.f2, below_two h.below hb⟩
def UpRel (w : World) (S H hi : Int) (i : Value) (wr : World) : Prop := ∃ al : Int, i = .int .i64 al ∧ -2 ≤ al ∧ al ≤ hi ∧ UpW w S H wr

set_option maxRecDepth 100000 in
set_option maxHeartbeats 4000000 in
theorem refUp_no1 (s a o S H : Int) (w : World) (h : Pit.right s a o = false) :
    Calls Tryd.prog 24 #[pt s a o, iv S H] w fun e w' => e = .returned (pv 0 0 0 20) ∧ Below w.heap.size w w' := by
  have hB0 : Below w.heap.size w w := Below.refl _ _
  go_enter Tryd.func24, Tryd.ntmps24
  go_wp2_with fail
  refine (refLine_any _ _ _ _).mono ?_
  rintro e w1 ⟨rfl, hb1⟩
  have hs1 : Below w.heap.size w w1 := Below.trans (by repeat (first | exact Below.refl _ _ | refine Below.alloc ?_ (by simp <;> omega) _)) (hb1.mono (by simp <;> omega))
  have c_p_0 : w1.cell? ⟨w.heap.size, 0, none⟩ = some (.int .i64 s) := (hb1.cell (by simp <;> omega)).trans (by go_simp)
  have c_p_1 : w1.cell? ⟨w.heap.size, 1, none⟩ = some (.int .i64 a) := (hb1.cell (by simp <;> omega)).trans (by go_simp)
  have c_p_2 : w1.cell? ⟨w.heap.size, 2, none⟩ = some (.int .i64 o) := (hb1.cell (by simp <;> omega)).trans (by go_simp)
  have c_by_0 : w1.cell? ⟨w.heap.size + 1, 0, none⟩ = some (.int .i64 S) := (hb1.cell (by simp <;> omega)).trans (by go_simp)
  have c_by_1 : w1.cell? ⟨w.heap.size + 1, 1, none⟩ = some (.int .i64 H) := (hb1.cell (by simp <;> omega)).trans (by go_simp)
  have c_r_0 : w1.cell? ⟨w.heap.size + 1 + 1, 0, none⟩ = some (.int .i64 0) := (hb1.cell (by simp <;> omega)).trans (by go_simp)
  have f_r_0 : w1.frozen? ⟨w.heap.size + 1 + 1, 0, none⟩ = false := (hb1.frozen (by simp <;> omega)).trans (by go_simp)
  have c_r_1 : w1.cell? ⟨w.heap.size + 1 + 1, 1, none⟩ = some (.int .i64 0) := (hb1.cell (by simp <;> omega)).trans (by go_simp)
  have f_r_1 : w1.frozen? ⟨w.heap.size + 1 + 1, 1, none⟩ = false := (hb1.frozen (by simp <;> omega)).trans (by go_simp)
  have c_r_2 : w1.cell? ⟨w.heap.size + 1 + 1, 2, none⟩ = some (.int .i64 0) := (hb1.cell (by simp <;> omega)).trans (by go_simp)
  have f_r_2 : w1.frozen? ⟨w.heap.size + 1 + 1, 2, none⟩ = false := (hb1.frozen (by simp <;> omega)).trans (by go_simp)
  have z_by := World.block_lt_of_cell? _ _ c_by_0
  have z_p := World.block_lt_of_cell? _ _ c_p_0
  have z_r := World.block_lt_of_cell? _ _ c_r_0
  have hB1 := below_two hB0 hs1
  clear hB0 hs1 hb1
  rw [h]
  simp only [onlyR, errP, if_false, Bool.false_eq_true]
  go_wp2_with fail
  refine (refNumber_any _ _ _ _).mono ?_
  rintro e w2 ⟨rfl, hb2⟩
  have hs2 := hb2
  clear c_p_0
  clear c_p_1
  clear c_p_2
  replace c_by_0 := cell_later hs2 c_by_0
  replace c_by_1 := cell_later hs2 c_by_1
  replace f_r_0 := frozen_later hs2 c_r_0 f_r_0
  replace c_r_0 := cell_later hs2 c_r_0
  replace f_r_1 := frozen_later hs2 c_r_1 f_r_1
  replace c_r_1 := cell_later hs2 c_r_1
  replace f_r_2 := frozen_later hs2 c_r_2 f_r_2
  replace c_r_2 := cell_later hs2 c_r_2
  clear z_by
  have z_by := World.block_lt_of_cell? _ _ c_by_0
  clear z_r
  have z_r := World.block_lt_of_cell? _ _ c_r_0
  clear z_p
  have hB2 := below_two hB1 hs2
  clear hB1 hs2
  rw [h]
  simp only [onlyR, errP, if_false, Bool.false_eq_true]
  obtain ⟨m0, m1, m2⟩ := put3_of (x := .int .i64 0) (y := .int .i64 0) (z := .int .i64 0) c_r_0 c_r_1 c_r_2
  go_wp2
  exact bodyPost_ret (v := .tuple #[.agg #[.int .i64 0, .int .i64 0, .int .i64 0], .int .i64 20]) (by simp [results, Tryd.results24, go_sem, m0, m1, m2]) rfl ⟨rfl, put3_below hB2 (by omega)⟩

set_option maxRecDepth 100000 in
set_option maxHeartbeats 4000000 in
theorem refUp_s0 (s a o S H : Int) (w : World) (h : Pit.right s a o = true) (L N : Int) (HL : Hid (Pit.lin s o = L)) (HN : Hid (Pit.num s a o = N)) (s0 : S < -100) :
    Calls Tryd.prog 24 #[pt s a o, iv S H] w fun e w' => e = .returned (pv 0 0 0 20) ∧ Below w.heap.size w w' := by
  have hB0 : Below w.heap.size w w := Below.refl _ _
  go_enter Tryd.func24, Tryd.ntmps24
  go_wp2_with fail
  refine (refLine_any _ _ _ _).mono ?_
  rintro e w1 ⟨rfl, hb1⟩
  have hs1 : Below w.heap.size w w1 := Below.trans (by repeat (first | exact Below.refl _ _ | refine Below.alloc ?_ (by simp <;> omega) _)) (hb1.mono (by simp <;> omega))
  have c_p_0 : w1.cell? ⟨w.heap.size, 0, none⟩ = some (.int .i64 s) := (hb1.cell (by simp <;> omega)).trans (by go_simp)
  have c_p_1 : w1.cell? ⟨w.heap.size, 1, none⟩ = some (.int .i64 a) := (hb1.cell (by simp <;> omega)).trans (by go_simp)
  have c_p_2 : w1.cell? ⟨w.heap.size, 2, none⟩ = some (.int .i64 o) := (hb1.cell (by simp <;> omega)).trans (by go_simp)
  have c_by_0 : w1.cell? ⟨w.heap.size + 1, 0, none⟩ = some (.int .i64 S) := (hb1.cell (by simp <;> omega)).trans (by go_simp)
  have c_by_1 : w1.cell? ⟨w.heap.size + 1, 1, none⟩ = some (.int .i64 H) := (hb1.cell (by simp <;> omega)).trans (by go_simp)
  have c_r_0 : w1.cell? ⟨w.heap.size + 1 + 1, 0, none⟩ = some (.int .i64 0) := (hb1.cell (by simp <;> omega)).trans (by go_simp)
  have f_r_0 : w1.frozen? ⟨w.heap.size + 1 + 1, 0, none⟩ = false := (hb1.frozen (by simp <;> omega)).trans (by go_simp)
  have c_r_1 : w1.cell? ⟨w.heap.size + 1 + 1, 1, none⟩ = some (.int .i64 0) := (hb1.cell (by simp <;> omega)).trans (by go_simp)
  have f_r_1 : w1.frozen? ⟨w.heap.size + 1 + 1, 1, none⟩ = false := (hb1.frozen (by simp <;> omega)).trans (by go_simp)
  have c_r_2 : w1.cell? ⟨w.heap.size + 1 + 1, 2, none⟩ = some (.int .i64 0) := (hb1.cell (by simp <;> omega)).trans (by go_simp)
  have f_r_2 : w1.frozen? ⟨w.heap.size + 1 + 1, 2, none⟩ = false := (hb1.frozen (by simp <;> omega)).trans (by go_simp)
  have z_by := World.block_lt_of_cell? _ _ c_by_0
  have z_p := World.block_lt_of_cell? _ _ c_p_0
  have z_r := World.block_lt_of_cell? _ _ c_r_0
  have hB1 := below_two hB0 hs1
  clear hB0 hs1 hb1
  rw [h, HL.out]
  simp only [onlyR, errP, if_true]
  go_wp2_with fail
  refine (refNumber_any _ _ _ _).mono ?_
  rintro e w2 ⟨rfl, hb2⟩
  have hs2 := hb2
  clear c_p_0
  clear c_p_1
  clear c_p_2
  replace c_by_0 := cell_later hs2 c_by_0
  replace c_by_1 := cell_later hs2 c_by_1
  replace f_r_0 := frozen_later hs2 c_r_0 f_r_0
  replace c_r_0 := cell_later hs2 c_r_0
  replace f_r_1 := frozen_later hs2 c_r_1 f_r_1
  replace c_r_1 := cell_later hs2 c_r_1
  replace f_r_2 := frozen_later hs2 c_r_2 f_r_2
  replace c_r_2 := cell_later hs2 c_r_2
  clear z_by
  have z_by := World.block_lt_of_cell? _ _ c_by_0
  clear z_r
  have z_r := World.block_lt_of_cell? _ _ c_r_0
  clear z_p
  have hB2 := below_two hB1 hs2
  clear hB1 hs2
  rw [h, HN.out]
  simp only [onlyR, errP, if_true]
  obtain ⟨m0, m1, m2⟩ := put3_of (x := .int .i64 0) (y := .int .i64 0) (z := .int .i64 0) c_r_0 c_r_1 c_r_2
  go_wp2
  exact bodyPost_ret (v := .tuple #[.agg #[.int .i64 0, .int .i64 0, .int .i64 0], .int .i64 20]) (by simp [results, Tryd.results24, go_sem, m0, m1, m2]) rfl ⟨rfl, put3_below hB2 (by omega)⟩

set_option maxRecDepth 100000 in
set_option maxHeartbeats 4000000 in
theorem refUp_s1 (s a o S H : Int) (w : World) (h : Pit.right s a o = true) (L N : Int) (HL : Hid (Pit.lin s o = L)) (HN : Hid (Pit.num s a o = N)) (s0 : ¬ S < -100) (s1 : 100 < S) :
    Calls Tryd.prog 24 #[pt s a o, iv S H] w fun e w' => e = .returned (pv 0 0 0 20) ∧ Below w.heap.size w w' := by
  have hB0 : Below w.heap.size w w := Below.refl _ _
  go_enter Tryd.func24, Tryd.ntmps24
  go_wp2_with fail
  refine (refLine_any _ _ _ _).mono ?_
  rintro e w1 ⟨rfl, hb1⟩
  have hs1 : Below w.heap.size w w1 := Below.trans (by repeat (first | exact Below.refl _ _ | refine Below.alloc ?_ (by simp <;> omega) _)) (hb1.mono (by simp <;> omega))
  have c_p_0 : w1.cell? ⟨w.heap.size, 0, none⟩ = some (.int .i64 s) := (hb1.cell (by simp <;> omega)).trans (by go_simp)
  have c_p_1 : w1.cell? ⟨w.heap.size, 1, none⟩ = some (.int .i64 a) := (hb1.cell (by simp <;> omega)).trans (by go_simp)
  have c_p_2 : w1.cell? ⟨w.heap.size, 2, none⟩ = some (.int .i64 o) := (hb1.cell (by simp <;> omega)).trans (by go_simp)
  have c_by_0 : w1.cell? ⟨w.heap.size + 1, 0, none⟩ = some (.int .i64 S) := (hb1.cell (by simp <;> omega)).trans (by go_simp)
  have c_by_1 : w1.cell? ⟨w.heap.size + 1, 1, none⟩ = some (.int .i64 H) := (hb1.cell (by simp <;> omega)).trans (by go_simp)
  have c_r_0 : w1.cell? ⟨w.heap.size + 1 + 1, 0, none⟩ = some (.int .i64 0) := (hb1.cell (by simp <;> omega)).trans (by go_simp)
  have f_r_0 : w1.frozen? ⟨w.heap.size + 1 + 1, 0, none⟩ = false := (hb1.frozen (by simp <;> omega)).trans (by go_simp)
  have c_r_1 : w1.cell? ⟨w.heap.size + 1 + 1, 1, none⟩ = some (.int .i64 0) := (hb1.cell (by simp <;> omega)).trans (by go_simp)
  have f_r_1 : w1.frozen? ⟨w.heap.size + 1 + 1, 1, none⟩ = false := (hb1.frozen (by simp <;> omega)).trans (by go_simp)
  have c_r_2 : w1.cell? ⟨w.heap.size + 1 + 1, 2, none⟩ = some (.int .i64 0) := (hb1.cell (by simp <;> omega)).trans (by go_simp)
  have f_r_2 : w1.frozen? ⟨w.heap.size + 1 + 1, 2, none⟩ = false := (hb1.frozen (by simp <;> omega)).trans (by go_simp)
  have z_by := World.block_lt_of_cell? _ _ c_by_0
  have z_p := World.block_lt_of_cell? _ _ c_p_0
  have z_r := World.block_lt_of_cell? _ _ c_r_0
  have hB1 := below_two hB0 hs1
  clear hB0 hs1 hb1
  rw [h, HL.out]
  simp only [onlyR, errP, if_true]
  go_wp2_with fail
  refine (refNumber_any _ _ _ _).mono ?_
  rintro e w2 ⟨rfl, hb2⟩
  have hs2 := hb2
  clear c_p_0
  clear c_p_1
  clear c_p_2
  replace c_by_0 := cell_later hs2 c_by_0
  replace c_by_1 := cell_later hs2 c_by_1
  replace f_r_0 := frozen_later hs2 c_r_0 f_r_0
  replace c_r_0 := cell_later hs2 c_r_0
  replace f_r_1 := frozen_later hs2 c_r_1 f_r_1
  replace c_r_1 := cell_later hs2 c_r_1
  replace f_r_2 := frozen_later hs2 c_r_2 f_r_2
  replace c_r_2 := cell_later hs2 c_r_2
  clear z_by
  have z_by := World.block_lt_of_cell? _ _ c_by_0
  clear z_r
  have z_r := World.block_lt_of_cell? _ _ c_r_0
  clear z_p
  have hB2 := below_two hB1 hs2
  clear hB1 hs2
  rw [h, HN.out]
  simp only [onlyR, errP, if_true]
  obtain ⟨m0, m1, m2⟩ := put3_of (x := .int .i64 0) (y := .int .i64 0) (z := .int .i64 0) c_r_0 c_r_1 c_r_2
  go_wp2
  exact bodyPost_ret (v := .tuple #[.agg #[.int .i64 0, .int .i64 0, .int .i64 0], .int .i64 20]) (by simp [results, Tryd.results24, go_sem, m0, m1, m2]) rfl ⟨rfl, put3_below hB2 (by omega)⟩

set_option maxRecDepth 100000 in
set_option maxHeartbeats 4000000 in
theorem refUp_h0 (s a o S H : Int) (w : World) (h : Pit.right s a o = true) (L N : Int) (HL : Hid (Pit.lin s o = L)) (HN : Hid (Pit.num s a o = N)) (s0 : ¬ S < -100) (s1 : ¬ 100 < S) (h0 : H < -200) :
    Calls Tryd.prog 24 #[pt s a o, iv S H] w fun e w' => e = .returned (pv 0 0 0 20) ∧ Below w.heap.size w w' := by
  have hB0 : Below w.heap.size w w := Below.refl _ _
  go_enter Tryd.func24, Tryd.ntmps24
  go_wp2_with fail
  refine (refLine_any _ _ _ _).mono ?_
  rintro e w1 ⟨rfl, hb1⟩
  have hs1 : Below w.heap.size w w1 := Below.trans (by repeat (first | exact Below.refl _ _ | refine Below.alloc ?_ (by simp <;> omega) _)) (hb1.mono (by simp <;> omega))
  have c_p_0 : w1.cell? ⟨w.heap.size, 0, none⟩ = some (.int .i64 s) := (hb1.cell (by simp <;> omega)).trans (by go_simp)
  have c_p_1 : w1.cell? ⟨w.heap.size, 1, none⟩ = some (.int .i64 a) := (hb1.cell (by simp <;> omega)).trans (by go_simp)
  have c_p_2 : w1.cell? ⟨w.heap.size, 2, none⟩ = some (.int .i64 o) := (hb1.cell (by simp <;> omega)).trans (by go_simp)
  have c_by_0 : w1.cell? ⟨w.heap.size + 1, 0, none⟩ = some (.int .i64 S) := (hb1.cell (by simp <;> omega)).trans (by go_simp)
  have c_by_1 : w1.cell? ⟨w.heap.size + 1, 1, none⟩ = some (.int .i64 H) := (hb1.cell (by simp <;> omega)).trans (by go_simp)
  have c_r_0 : w1.cell? ⟨w.heap.size + 1 + 1, 0, none⟩ = some (.int .i64 0) := (hb1.cell (by simp <;> omega)).trans (by go_simp)
  have f_r_0 : w1.frozen? ⟨w.heap.size + 1 + 1, 0, none⟩ = false := (hb1.frozen (by simp <;> omega)).trans (by go_simp)
  have c_r_1 : w1.cell? ⟨w.heap.size + 1 + 1, 1, none⟩ = some (.int .i64 0) := (hb1.cell (by simp <;> omega)).trans (by go_simp)
  have f_r_1 : w1.frozen? ⟨w.heap.size + 1 + 1, 1, none⟩ = false := (hb1.frozen (by simp <;> omega)).trans (by go_simp)
  have c_r_2 : w1.cell? ⟨w.heap.size + 1 + 1, 2, none⟩ = some (.int .i64 0) := (hb1.cell (by simp <;> omega)).trans (by go_simp)
  have f_r_2 : w1.frozen? ⟨w.heap.size + 1 + 1, 2, none⟩ = false := (hb1.frozen (by simp <;> omega)).trans (by go_simp)
  have z_by := World.block_lt_of_cell? _ _ c_by_0
  have z_p := World.block_lt_of_cell? _ _ c_p_0
  have z_r := World.block_lt_of_cell? _ _ c_r_0
  have hB1 := below_two hB0 hs1
  clear hB0 hs1 hb1
  rw [h, HL.out]
  simp only [onlyR, errP, if_true]
  go_wp2_with fail
  refine (refNumber_any _ _ _ _).mono ?_
  rintro e w2 ⟨rfl, hb2⟩
  have hs2 := hb2
  clear c_p_0
  clear c_p_1
  clear c_p_2
  replace c_by_0 := cell_later hs2 c_by_0
  replace c_by_1 := cell_later hs2 c_by_1
  replace f_r_0 := frozen_later hs2 c_r_0 f_r_0
  replace c_r_0 := cell_later hs2 c_r_0
  replace f_r_1 := frozen_later hs2 c_r_1 f_r_1
  replace c_r_1 := cell_later hs2 c_r_1
  replace f_r_2 := frozen_later hs2 c_r_2 f_r_2
  replace c_r_2 := cell_later hs2 c_r_2
  clear z_by
  have z_by := World.block_lt_of_cell? _ _ c_by_0
  clear z_r
  have z_r := World.block_lt_of_cell? _ _ c_r_0
  clear z_p
  have hB2 := below_two hB1 hs2
  clear hB1 hs2
  rw [h, HN.out]
  simp only [onlyR, errP, if_true]
  obtain ⟨m0, m1, m2⟩ := put3_of (x := .int .i64 0) (y := .int .i64 0) (z := .int .i64 0) c_r_0 c_r_1 c_r_2
  go_wp2
  exact bodyPost_ret (v := .tuple #[.agg #[.int .i64 0, .int .i64 0, .int .i64 0], .int .i64 20]) (by simp [results, Tryd.results24, go_sem, m0, m1, m2]) rfl ⟨rfl, put3_below hB2 (by omega)⟩

set_option maxRecDepth 100000 in
set_option maxHeartbeats 4000000 in
theorem refUp_h1 (s a o S H : Int) (w : World) (h : Pit.right s a o = true) (L N : Int) (HL : Hid (Pit.lin s o = L)) (HN : Hid (Pit.num s a o = N)) (s0 : ¬ S < -100) (s1 : ¬ 100 < S) (h0 : ¬ H < -200) (h1 : 200 < H) :
    Calls Tryd.prog 24 #[pt s a o, iv S H] w fun e w' => e = .returned (pv 0 0 0 20) ∧ Below w.heap.size w w' := by
  have hB0 : Below w.heap.size w w := Below.refl _ _
  go_enter Tryd.func24, Tryd.ntmps24
  go_wp2_with fail
  refine (refLine_any _ _ _ _).mono ?_
  rintro e w1 ⟨rfl, hb1⟩
  have hs1 : Below w.heap.size w w1 := Below.trans (by repeat (first | exact Below.refl _ _ | refine Below.alloc ?_ (by simp <;> omega) _)) (hb1.mono (by simp <;> omega))
  have c_p_0 : w1.cell? ⟨w.heap.size, 0, none⟩ = some (.int .i64 s) := (hb1.cell (by simp <;> omega)).trans (by go_simp)
  have c_p_1 : w1.cell? ⟨w.heap.size, 1, none⟩ = some (.int .i64 a) := (hb1.cell (by simp <;> omega)).trans (by go_simp)
  have c_p_2 : w1.cell? ⟨w.heap.size, 2, none⟩ = some (.int .i64 o) := (hb1.cell (by simp <;> omega)).trans (by go_simp)
  have c_by_0 : w1.cell? ⟨w.heap.size + 1, 0, none⟩ = some (.int .i64 S) := (hb1.cell (by simp <;> omega)).trans (by go_simp)
  have c_by_1 : w1.cell? ⟨w.heap.size + 1, 1, none⟩ = some (.int .i64 H) := (hb1.cell (by simp <;> omega)).trans (by go_simp)
  have c_r_0 : w1.cell? ⟨w.heap.size + 1 + 1, 0, none⟩ = some (.int .i64 0) := (hb1.cell (by simp <;> omega)).trans (by go_simp)
  have f_r_0 : w1.frozen? ⟨w.heap.size + 1 + 1, 0, none⟩ = false := (hb1.frozen (by simp <;> omega)).trans (by go_simp)
  have c_r_1 : w1.cell? ⟨w.heap.size + 1 + 1, 1, none⟩ = some (.int .i64 0) := (hb1.cell (by simp <;> omega)).trans (by go_simp)
  have f_r_1 : w1.frozen? ⟨w.heap.size + 1 + 1, 1, none⟩ = false := (hb1.frozen (by simp <;> omega)).trans (by go_simp)
  have c_r_2 : w1.cell? ⟨w.heap.size + 1 + 1, 2, none⟩ = some (.int .i64 0) := (hb1.cell (by simp <;> omega)).trans (by go_simp)
  have f_r_2 : w1.frozen? ⟨w.heap.size + 1 + 1, 2, none⟩ = false := (hb1.frozen (by simp <;> omega)).trans (by go_simp)
  have z_by := World.block_lt_of_cell? _ _ c_by_0
  have z_p := World.block_lt_of_cell? _ _ c_p_0
  have z_r := World.block_lt_of_cell? _ _ c_r_0
  have hB1 := below_two hB0 hs1
  clear hB0 hs1 hb1
  rw [h, HL.out]
  simp only [onlyR, errP, if_true]
  go_wp2_with fail
  refine (refNumber_any _ _ _ _).mono ?_
  rintro e w2 ⟨rfl, hb2⟩
  have hs2 := hb2
  clear c_p_0
  clear c_p_1
  clear c_p_2
  replace c_by_0 := cell_later hs2 c_by_0
  replace c_by_1 := cell_later hs2 c_by_1
  replace f_r_0 := frozen_later hs2 c_r_0 f_r_0
  replace c_r_0 := cell_later hs2 c_r_0
  replace f_r_1 := frozen_later hs2 c_r_1 f_r_1
  replace c_r_1 := cell_later hs2 c_r_1
  replace f_r_2 := frozen_later hs2 c_r_2 f_r_2
  replace c_r_2 := cell_later hs2 c_r_2
  clear z_by
  have z_by := World.block_lt_of_cell? _ _ c_by_0
  clear z_r
  have z_r := World.block_lt_of_cell? _ _ c_r_0
  clear z_p
  have hB2 := below_two hB1 hs2
  clear hB1 hs2
  rw [h, HN.out]
  simp only [onlyR, errP, if_true]
  obtain ⟨m0, m1, m2⟩ := put3_of (x := .int .i64 0) (y := .int .i64 0) (z := .int .i64 0) c_r_0 c_r_1 c_r_2
  go_wp2
  exact bodyPost_ret (v := .tuple #[.agg #[.int .i64 0, .int .i64 0, .int .i64 0], .int .i64 20]) (by simp [results, Tryd.results24, go_sem, m0, m1, m2]) rfl ⟨rfl, put3_below hB2 (by omega)⟩

set_option maxRecDepth 100000 in
set_option maxHeartbeats 4000000 in
theorem refUp_neg (s a o S H : Int) (w : World) (h : Pit.right s a o = true) (L N : Int) (HL : Hid (Pit.lin s o = L)) (HN : Hid (Pit.num s a o = N)) (s0 : ¬ S < -100) (s1 : ¬ 100 < S) (h0 : ¬ H < -200) (h1 : ¬ 200 < H) (L0 : -7 ≤ L) (L1 : L ≤ 69) (T : Int) (hT : L + S + 7 = T) (hT0 : T < 0) :
    Calls Tryd.prog 24 #[pt s a o, iv S H] w fun e w' => e = .returned (pv 0 0 0 20) ∧ Below w.heap.size w w' := by
  have hB0 : Below w.heap.size w w := Below.refl _ _
  go_enter Tryd.func24, Tryd.ntmps24
  go_wp2_with fail
  refine (refLine_any _ _ _ _).mono ?_
  rintro e w1 ⟨rfl, hb1⟩
  have hs1 : Below w.heap.size w w1 := Below.trans (by repeat (first | exact Below.refl _ _ | refine Below.alloc ?_ (by simp <;> omega) _)) (hb1.mono (by simp <;> omega))
  have c_p_0 : w1.cell? ⟨w.heap.size, 0, none⟩ = some (.int .i64 s) := (hb1.cell (by simp <;> omega)).trans (by go_simp)
  have c_p_1 : w1.cell? ⟨w.heap.size, 1, none⟩ = some (.int .i64 a) := (hb1.cell (by simp <;> omega)).trans (by go_simp)
  have c_p_2 : w1.cell? ⟨w.heap.size, 2, none⟩ = some (.int .i64 o) := (hb1.cell (by simp <;> omega)).trans (by go_simp)
  have c_by_0 : w1.cell? ⟨w.heap.size + 1, 0, none⟩ = some (.int .i64 S) := (hb1.cell (by simp <;> omega)).trans (by go_simp)
  have c_by_1 : w1.cell? ⟨w.heap.size + 1, 1, none⟩ = some (.int .i64 H) := (hb1.cell (by simp <;> omega)).trans (by go_simp)
  have c_r_0 : w1.cell? ⟨w.heap.size + 1 + 1, 0, none⟩ = some (.int .i64 0) := (hb1.cell (by simp <;> omega)).trans (by go_simp)
  have f_r_0 : w1.frozen? ⟨w.heap.size + 1 + 1, 0, none⟩ = false := (hb1.frozen (by simp <;> omega)).trans (by go_simp)
  have c_r_1 : w1.cell? ⟨w.heap.size + 1 + 1, 1, none⟩ = some (.int .i64 0) := (hb1.cell (by simp <;> omega)).trans (by go_simp)
  have f_r_1 : w1.frozen? ⟨w.heap.size + 1 + 1, 1, none⟩ = false := (hb1.frozen (by simp <;> omega)).trans (by go_simp)
  have c_r_2 : w1.cell? ⟨w.heap.size + 1 + 1, 2, none⟩ = some (.int .i64 0) := (hb1.cell (by simp <;> omega)).trans (by go_simp)
  have f_r_2 : w1.frozen? ⟨w.heap.size + 1 + 1, 2, none⟩ = false := (hb1.frozen (by simp <;> omega)).trans (by go_simp)
  have z_by := World.block_lt_of_cell? _ _ c_by_0
  have z_p := World.block_lt_of_cell? _ _ c_p_0
  have z_r := World.block_lt_of_cell? _ _ c_r_0
  have hB1 := below_two hB0 hs1
  clear hB0 hs1 hb1
  rw [h, HL.out]
  simp only [onlyR, errP, if_true]
  go_wp2_with fail
  refine (refNumber_any _ _ _ _).mono ?_
  rintro e w2 ⟨rfl, hb2⟩
  have hs2 := hb2
  clear c_p_0
  clear c_p_1
  clear c_p_2
  replace c_by_0 := cell_later hs2 c_by_0
  replace c_by_1 := cell_later hs2 c_by_1
  replace f_r_0 := frozen_later hs2 c_r_0 f_r_0
  replace c_r_0 := cell_later hs2 c_r_0
  replace f_r_1 := frozen_later hs2 c_r_1 f_r_1
  replace c_r_1 := cell_later hs2 c_r_1
  replace f_r_2 := frozen_later hs2 c_r_2 f_r_2
  replace c_r_2 := cell_later hs2 c_r_2
  clear z_by
  have z_by := World.block_lt_of_cell? _ _ c_by_0
  clear z_r
  have z_r := World.block_lt_of_cell? _ _ c_r_0
  clear z_p
  have hB2 := below_two hB1 hs2
  clear hB1 hs2
  rw [h, HN.out]
  simp only [onlyR, errP, if_true]
  have hU : UpW w S H w2 := ⟨c_by_0, c_by_1, c_r_0, c_r_1, c_r_2, f_r_0, f_r_1, f_r_2, hB2⟩
  go_wp2_with fail
  clear c_by_0 c_by_1 c_r_0 c_r_1 c_r_2 f_r_0 f_r_1 f_r_2 hB2 z_by z_r
  go_loopw [10] (fun i wr => UpRel w S H (-2) i wr) (fun i _ => (3 - intOf i).toNat)
  case atStart => exact ⟨-2, rfl, by omega, by omega, hU⟩
  case round =>
    clear hU
    obtain ⟨al, rfl, a0, a1, hU⟩ := hrel
    obtain rfl : al = -2 := by omega
    obtain ⟨b0, b1, r0, r1, r2, f0, f1, f2, hB⟩ := hU
    obtain ⟨m0, m1, m2⟩ := put3_of (x := .int .i64 0) (y := .int .i64 0) (z := .int .i64 0) r0 r1 r2
    go_wp2
    exact bodyPost_ret (v := pv 0 0 0 20) (by simp [results, Tryd.results24, go_sem, m0, m1, m2]) rfl ⟨rfl, put3_below hB (by omega)⟩

set_option maxRecDepth 100000 in
set_option maxHeartbeats 4000000 in
theorem refUp_none (s a o S H : Int) (w : World) (h : Pit.right s a o = true) (L N : Int) (HL : Hid (Pit.lin s o = L)) (HN : Hid (Pit.num s a o = N)) (s0 : ¬ S < -100) (s1 : ¬ 100 < S) (h0 : ¬ H < -200) (h1 : ¬ 200 < H) (L0 : -7 ≤ L) (L1 : L ≤ 69) (T : Int) (hT : L + S + 7 = T) (hT0 : ¬ T < 0) (R D O : Int) (hm : T.tmod 7 = R) (hm' : T % 7 = R) (hd : T.tdiv 7 = D) (hd' : T / 7 = D) (hO : D - 1 = O) (D0 : 0 ≤ D) (D1 : D ≤ 30) (N0 : 0 ≤ N) (N1 : N ≤ 127) (HMiss : Hid (∀ al : Int, -2 ≤ al → al ≤ 2 → Pit.right R al O = true → Pit.num R al O ≠ N + H)) :
    Calls Tryd.prog 24 #[pt s a o, iv S H] w fun e w' => e = .returned (pv 0 0 0 20) ∧ Below w.heap.size w w' := by
  have hB0 : Below w.heap.size w w := Below.refl _ _
  go_enter Tryd.func24, Tryd.ntmps24
  go_wp2_with fail
  refine (refLine_any _ _ _ _).mono ?_
  rintro e w1 ⟨rfl, hb1⟩
  have hs1 : Below w.heap.size w w1 := Below.trans (by repeat (first | exact Below.refl _ _ | refine Below.alloc ?_ (by simp <;> omega) _)) (hb1.mono (by simp <;> omega))
  have c_p_0 : w1.cell? ⟨w.heap.size, 0, none⟩ = some (.int .i64 s) := (hb1.cell (by simp <;> omega)).trans (by go_simp)
  have c_p_1 : w1.cell? ⟨w.heap.size, 1, none⟩ = some (.int .i64 a) := (hb1.cell (by simp <;> omega)).trans (by go_simp)
  have c_p_2 : w1.cell? ⟨w.heap.size, 2, none⟩ = some (.int .i64 o) := (hb1.cell (by simp <;> omega)).trans (by go_simp)
  have c_by_0 : w1.cell? ⟨w.heap.size + 1, 0, none⟩ = some (.int .i64 S) := (hb1.cell (by simp <;> omega)).trans (by go_simp)
  have c_by_1 : w1.cell? ⟨w.heap.size + 1, 1, none⟩ = some (.int .i64 H) := (hb1.cell (by simp <;> omega)).trans (by go_simp)
  have c_r_0 : w1.cell? ⟨w.heap.size + 1 + 1, 0, none⟩ = some (.int .i64 0) := (hb1.cell (by simp <;> omega)).trans (by go_simp)
  have f_r_0 : w1.frozen? ⟨w.heap.size + 1 + 1, 0, none⟩ = false := (hb1.frozen (by simp <;> omega)).trans (by go_simp)
  have c_r_1 : w1.cell? ⟨w.heap.size + 1 + 1, 1, none⟩ = some (.int .i64 0) := (hb1.cell (by simp <;> omega)).trans (by go_simp)
  have f_r_1 : w1.frozen? ⟨w.heap.size + 1 + 1, 1, none⟩ = false := (hb1.frozen (by simp <;> omega)).trans (by go_simp)
  have c_r_2 : w1.cell? ⟨w.heap.size + 1 + 1, 2, none⟩ = some (.int .i64 0) := (hb1.cell (by simp <;> omega)).trans (by go_simp)
  have f_r_2 : w1.frozen? ⟨w.heap.size + 1 + 1, 2, none⟩ = false := (hb1.frozen (by simp <;> omega)).trans (by go_simp)
  have z_by := World.block_lt_of_cell? _ _ c_by_0
  have z_p := World.block_lt_of_cell? _ _ c_p_0
  have z_r := World.block_lt_of_cell? _ _ c_r_0
  have hB1 := below_two hB0 hs1
  clear hB0 hs1 hb1
  rw [h, HL.out]
  simp only [onlyR, errP, if_true]
  go_wp2_with fail
  refine (refNumber_any _ _ _ _).mono ?_
  rintro e w2 ⟨rfl, hb2⟩
  have hs2 := hb2
  clear c_p_0
  clear c_p_1
  clear c_p_2
  replace c_by_0 := cell_later hs2 c_by_0
  replace c_by_1 := cell_later hs2 c_by_1
  replace f_r_0 := frozen_later hs2 c_r_0 f_r_0
  replace c_r_0 := cell_later hs2 c_r_0
  replace f_r_1 := frozen_later hs2 c_r_1 f_r_1
  replace c_r_1 := cell_later hs2 c_r_1
  replace f_r_2 := frozen_later hs2 c_r_2 f_r_2
  replace c_r_2 := cell_later hs2 c_r_2
  clear z_by
  have z_by := World.block_lt_of_cell? _ _ c_by_0
  clear z_r
  have z_r := World.block_lt_of_cell? _ _ c_r_0
  clear z_p
  have hB2 := below_two hB1 hs2
  clear hB1 hs2
  rw [h, HN.out]
  simp only [onlyR, errP, if_true]
  have hU : UpW w S H w2 := ⟨c_by_0, c_by_1, c_r_0, c_r_1, c_r_2, f_r_0, f_r_1, f_r_2, hB2⟩
  go_wp2_with fail
  clear c_by_0 c_by_1 c_r_0 c_r_1 c_r_2 f_r_0 f_r_1 f_r_2 hB2 z_by z_r
  go_loopw [10] (fun i wr => UpRel w S H 3 i wr) (fun i _ => (3 - intOf i).toNat)
  case atStart => exact ⟨-2, rfl, by omega, by omega, hU⟩
  case round =>
    clear hU
    obtain ⟨al, rfl, a0, a1, hU⟩ := hrel
    by_cases ha : al ≤ 2
    · have b0 := hU.b0
      have b1 := hU.b1
      cases hrt : Pit.right R al O with
      | false =>
        have HRt := Lib.hid hrt
        clear hrt
        go_wp2_with fail
        have hs2 := alloc_below (o := .cells #[.int .i64 R, .int .i64 al, .int .i64 O] 23) (Below.refl wr.heap.size wr)
        have q0 : (wr.alloc (.cells #[.int .i64 R, .int .i64 al, .int .i64 O] 23)).cell? ⟨wr.heap.size, 0, none⟩ = some (.int .i64 R) := by go_simp
        have q1 : (wr.alloc (.cells #[.int .i64 R, .int .i64 al, .int .i64 O] 23)).cell? ⟨wr.heap.size, 1, none⟩ = some (.int .i64 al) := by go_simp
        have q2 : (wr.alloc (.cells #[.int .i64 R, .int .i64 al, .int .i64 O] 23)).cell? ⟨wr.heap.size, 2, none⟩ = some (.int .i64 O) := by go_simp
        have HU := Lib.hid (hU.later hs2)
        clear hs2 hU b0 b1
        generalize wr.alloc (.cells #[.int .i64 R, .int .i64 al, .int .i64 O] 23) = w3 at *
        refine (refNumber_any _ _ _ _).mono ?_
        rintro e w4 ⟨rfl, hb⟩
        replace q0 := cell_later hb q0
        replace q1 := cell_later hb q1
        replace q2 := cell_later hb q2
        replace HU := Lib.hid (HU.out.later hb)
        clear hb
        obtain ⟨b0, b1, r0, r1, r2, f0, f1, f2, hB⟩ := HU.out
        rw [HRt.out]
        simp only [onlyR, errP, if_false, Bool.false_eq_true]
        clear r0 r1 r2 f0 f1 f2 hB
        go_wp2
        exact ⟨⟨al + 1, by go_num, by omega, by omega, HU.out⟩, by simp [intOf]; omega⟩
      | true =>
        obtain ⟨M, hM⟩ : ∃ M, Pit.num R al O = M := ⟨_, rfl⟩
        have HM := Lib.hid hM
        have hMN : (M == N + H) = false := by
          have := HMiss.out al a0 (by omega) hrt
          rw [hM] at this
          simp [this]
        have HRt := Lib.hid hrt
        clear hrt hM
        go_wp2_with fail
        have hs2 := alloc_below (o := .cells #[.int .i64 R, .int .i64 al, .int .i64 O] 23) (Below.refl wr.heap.size wr)
        have q0 : (wr.alloc (.cells #[.int .i64 R, .int .i64 al, .int .i64 O] 23)).cell? ⟨wr.heap.size, 0, none⟩ = some (.int .i64 R) := by go_simp
        have q1 : (wr.alloc (.cells #[.int .i64 R, .int .i64 al, .int .i64 O] 23)).cell? ⟨wr.heap.size, 1, none⟩ = some (.int .i64 al) := by go_simp
        have q2 : (wr.alloc (.cells #[.int .i64 R, .int .i64 al, .int .i64 O] 23)).cell? ⟨wr.heap.size, 2, none⟩ = some (.int .i64 O) := by go_simp
        have HU := Lib.hid (hU.later hs2)
        clear hs2 hU b0 b1
        generalize wr.alloc (.cells #[.int .i64 R, .int .i64 al, .int .i64 O] 23) = w3 at *
        refine (refNumber_any _ _ _ _).mono ?_
        rintro e w4 ⟨rfl, hb⟩
        replace q0 := cell_later hb q0
        replace q1 := cell_later hb q1
        replace q2 := cell_later hb q2
        replace HU := Lib.hid (HU.out.later hb)
        clear hb
        obtain ⟨b0, b1, r0, r1, r2, f0, f1, f2, hB⟩ := HU.out
        rw [HRt.out, HM.out]
        simp only [onlyR, errP, if_true]
        clear r0 r1 r2 f0 f1 f2 hB
        go_wp2
        exact ⟨⟨al + 1, by go_num, by omega, by omega, HU.out⟩, by simp [intOf]; omega⟩
    · obtain rfl : al = 3 := by omega
      obtain ⟨b0, b1, r0, r1, r2, f0, f1, f2, hB⟩ := hU
      obtain ⟨m0, m1, m2⟩ := put3_of (x := .int .i64 0) (y := .int .i64 0) (z := .int .i64 0) r0 r1 r2
      go_wp2
      exact bodyPost_ret (v := pv 0 0 0 20) (by simp [results, Tryd.results24, go_sem, m0, m1, m2]) rfl ⟨rfl, put3_below hB (by omega)⟩

set_option maxRecDepth 100000 in
set_option maxHeartbeats 4000000 in
theorem refUp_some (s a o S H : Int) (w : World) (h : Pit.right s a o = true) (L N : Int) (HL : Hid (Pit.lin s o = L)) (HN : Hid (Pit.num s a o = N)) (s0 : ¬ S < -100) (s1 : ¬ 100 < S) (h0 : ¬ H < -200) (h1 : ¬ 200 < H) (L0 : -7 ≤ L) (L1 : L ≤ 69) (T : Int) (hT : L + S + 7 = T) (hT0 : ¬ T < 0) (R D O : Int) (hm : T.tmod 7 = R) (hm' : T % 7 = R) (hd : T.tdiv 7 = D) (hd' : T / 7 = D) (hO : D - 1 = O) (D0 : 0 ≤ D) (D1 : D ≤ 30) (N0 : 0 ≤ N) (N1 : N ≤ 127) (X : Int) (X0 : -2 ≤ X) (X2 : X ≤ 2) (HRX : Hid (Pit.right R X O = true)) (HNX : Hid (Pit.num R X O = N + H)) (HMiss : Hid (∀ al : Int, -2 ≤ al → al < X → Pit.right R al O = true → Pit.num R al O ≠ N + H)) :
    Calls Tryd.prog 24 #[pt s a o, iv S H] w fun e w' => e = .returned (pv R X O 0) ∧ Below w.heap.size w w' := by
  have hB0 : Below w.heap.size w w := Below.refl _ _
  go_enter Tryd.func24, Tryd.ntmps24
  go_wp2_with fail
  refine (refLine_any _ _ _ _).mono ?_
  rintro e w1 ⟨rfl, hb1⟩
  have hs1 : Below w.heap.size w w1 := Below.trans (by repeat (first | exact Below.refl _ _ | refine Below.alloc ?_ (by simp <;> omega) _)) (hb1.mono (by simp <;> omega))
  have c_p_0 : w1.cell? ⟨w.heap.size, 0, none⟩ = some (.int .i64 s) := (hb1.cell (by simp <;> omega)).trans (by go_simp)
  have c_p_1 : w1.cell? ⟨w.heap.size, 1, none⟩ = some (.int .i64 a) := (hb1.cell (by simp <;> omega)).trans (by go_simp)
  have c_p_2 : w1.cell? ⟨w.heap.size, 2, none⟩ = some (.int .i64 o) := (hb1.cell (by simp <;> omega)).trans (by go_simp)
  have c_by_0 : w1.cell? ⟨w.heap.size + 1, 0, none⟩ = some (.int .i64 S) := (hb1.cell (by simp <;> omega)).trans (by go_simp)
  have c_by_1 : w1.cell? ⟨w.heap.size + 1, 1, none⟩ = some (.int .i64 H) := (hb1.cell (by simp <;> omega)).trans (by go_simp)
  have c_r_0 : w1.cell? ⟨w.heap.size + 1 + 1, 0, none⟩ = some (.int .i64 0) := (hb1.cell (by simp <;> omega)).trans (by go_simp)
  have f_r_0 : w1.frozen? ⟨w.heap.size + 1 + 1, 0, none⟩ = false := (hb1.frozen (by simp <;> omega)).trans (by go_simp)
  have c_r_1 : w1.cell? ⟨w.heap.size + 1 + 1, 1, none⟩ = some (.int .i64 0) := (hb1.cell (by simp <;> omega)).trans (by go_simp)
  have f_r_1 : w1.frozen? ⟨w.heap.size + 1 + 1, 1, none⟩ = false := (hb1.frozen (by simp <;> omega)).trans (by go_simp)
  have c_r_2 : w1.cell? ⟨w.heap.size + 1 + 1, 2, none⟩ = some (.int .i64 0) := (hb1.cell (by simp <;> omega)).trans (by go_simp)
  have f_r_2 : w1.frozen? ⟨w.heap.size + 1 + 1, 2, none⟩ = false := (hb1.frozen (by simp <;> omega)).trans (by go_simp)
  have z_by := World.block_lt_of_cell? _ _ c_by_0
  have z_p := World.block_lt_of_cell? _ _ c_p_0
  have z_r := World.block_lt_of_cell? _ _ c_r_0
  have hB1 := below_two hB0 hs1
  clear hB0 hs1 hb1
  rw [h, HL.out]
  simp only [onlyR, errP, if_true]
  go_wp2_with fail
  refine (refNumber_any _ _ _ _).mono ?_
  rintro e w2 ⟨rfl, hb2⟩
  have hs2 := hb2
  clear c_p_0
  clear c_p_1
  clear c_p_2
  replace c_by_0 := cell_later hs2 c_by_0
  replace c_by_1 := cell_later hs2 c_by_1
  replace f_r_0 := frozen_later hs2 c_r_0 f_r_0
  replace c_r_0 := cell_later hs2 c_r_0
  replace f_r_1 := frozen_later hs2 c_r_1 f_r_1
  replace c_r_1 := cell_later hs2 c_r_1
  replace f_r_2 := frozen_later hs2 c_r_2 f_r_2
  replace c_r_2 := cell_later hs2 c_r_2
  clear z_by
  have z_by := World.block_lt_of_cell? _ _ c_by_0
  clear z_r
  have z_r := World.block_lt_of_cell? _ _ c_r_0
  clear z_p
  have hB2 := below_two hB1 hs2
  clear hB1 hs2
  rw [h, HN.out]
  simp only [onlyR, errP, if_true]
  have hU : UpW w S H w2 := ⟨c_by_0, c_by_1, c_r_0, c_r_1, c_r_2, f_r_0, f_r_1, f_r_2, hB2⟩
  go_wp2_with fail
  clear c_by_0 c_by_1 c_r_0 c_r_1 c_r_2 f_r_0 f_r_1 f_r_2 hB2 z_by z_r
  go_loopw [10] (fun i wr => UpRel w S H X i wr) (fun i _ => (3 - intOf i).toNat)
  case atStart => exact ⟨-2, rfl, by omega, by omega, hU⟩
  case round =>
    clear hU
    obtain ⟨al, rfl, a0, a1, hU⟩ := hrel
    by_cases ha : al < X
    · have b0 := hU.b0
      have b1 := hU.b1
      cases hrt : Pit.right R al O with
      | false =>
        have HRt := Lib.hid hrt
        clear hrt
        go_wp2_with fail
        have hs2 := alloc_below (o := .cells #[.int .i64 R, .int .i64 al, .int .i64 O] 23) (Below.refl wr.heap.size wr)
        have q0 : (wr.alloc (.cells #[.int .i64 R, .int .i64 al, .int .i64 O] 23)).cell? ⟨wr.heap.size, 0, none⟩ = some (.int .i64 R) := by go_simp
        have q1 : (wr.alloc (.cells #[.int .i64 R, .int .i64 al, .int .i64 O] 23)).cell? ⟨wr.heap.size, 1, none⟩ = some (.int .i64 al) := by go_simp
        have q2 : (wr.alloc (.cells #[.int .i64 R, .int .i64 al, .int .i64 O] 23)).cell? ⟨wr.heap.size, 2, none⟩ = some (.int .i64 O) := by go_simp
        have HU := Lib.hid (hU.later hs2)
        clear hs2 hU b0 b1
        generalize wr.alloc (.cells #[.int .i64 R, .int .i64 al, .int .i64 O] 23) = w3 at *
        refine (refNumber_any _ _ _ _).mono ?_
        rintro e w4 ⟨rfl, hb⟩
        replace q0 := cell_later hb q0
        replace q1 := cell_later hb q1
        replace q2 := cell_later hb q2
        replace HU := Lib.hid (HU.out.later hb)
        clear hb
        obtain ⟨b0, b1, r0, r1, r2, f0, f1, f2, hB⟩ := HU.out
        rw [HRt.out]
        simp only [onlyR, errP, if_false, Bool.false_eq_true]
        clear r0 r1 r2 f0 f1 f2 hB
        go_wp2
        exact ⟨⟨al + 1, by go_num, by omega, by omega, HU.out⟩, by simp [intOf]; omega⟩
      | true =>
        obtain ⟨M, hM⟩ : ∃ M, Pit.num R al O = M := ⟨_, rfl⟩
        have HM := Lib.hid hM
        have hMN : (M == N + H) = false := by
          have := HMiss.out al a0 (by omega) hrt
          rw [hM] at this
          simp [this]
        have HRt := Lib.hid hrt
        clear hrt hM
        go_wp2_with fail
        have hs2 := alloc_below (o := .cells #[.int .i64 R, .int .i64 al, .int .i64 O] 23) (Below.refl wr.heap.size wr)
        have q0 : (wr.alloc (.cells #[.int .i64 R, .int .i64 al, .int .i64 O] 23)).cell? ⟨wr.heap.size, 0, none⟩ = some (.int .i64 R) := by go_simp
        have q1 : (wr.alloc (.cells #[.int .i64 R, .int .i64 al, .int .i64 O] 23)).cell? ⟨wr.heap.size, 1, none⟩ = some (.int .i64 al) := by go_simp
        have q2 : (wr.alloc (.cells #[.int .i64 R, .int .i64 al, .int .i64 O] 23)).cell? ⟨wr.heap.size, 2, none⟩ = some (.int .i64 O) := by go_simp
        have HU := Lib.hid (hU.later hs2)
        clear hs2 hU b0 b1
        generalize wr.alloc (.cells #[.int .i64 R, .int .i64 al, .int .i64 O] 23) = w3 at *
        refine (refNumber_any _ _ _ _).mono ?_
        rintro e w4 ⟨rfl, hb⟩
        replace q0 := cell_later hb q0
        replace q1 := cell_later hb q1
        replace q2 := cell_later hb q2
        replace HU := Lib.hid (HU.out.later hb)
        clear hb
        obtain ⟨b0, b1, r0, r1, r2, f0, f1, f2, hB⟩ := HU.out
        rw [HRt.out, HM.out]
        simp only [onlyR, errP, if_true]
        clear r0 r1 r2 f0 f1 f2 hB
        go_wp2
        exact ⟨⟨al + 1, by go_num, by omega, by omega, HU.out⟩, by simp [intOf]; omega⟩
    · obtain rfl : al = X := by omega
      have b0 := hU.b0
      have b1 := hU.b1
      go_wp2_with fail
      have hs2 := alloc_below (o := .cells #[.int .i64 R, .int .i64 al, .int .i64 O] 23) (Below.refl wr.heap.size wr)
      have q0 : (wr.alloc (.cells #[.int .i64 R, .int .i64 al, .int .i64 O] 23)).cell? ⟨wr.heap.size, 0, none⟩ = some (.int .i64 R) := by go_simp
      have q1 : (wr.alloc (.cells #[.int .i64 R, .int .i64 al, .int .i64 O] 23)).cell? ⟨wr.heap.size, 1, none⟩ = some (.int .i64 al) := by go_simp
      have q2 : (wr.alloc (.cells #[.int .i64 R, .int .i64 al, .int .i64 O] 23)).cell? ⟨wr.heap.size, 2, none⟩ = some (.int .i64 O) := by go_simp
      have HU := Lib.hid (hU.later hs2)
      clear hs2 hU b0 b1
      generalize wr.alloc (.cells #[.int .i64 R, .int .i64 al, .int .i64 O] 23) = w3 at *
      refine (refNumber_any _ _ _ _).mono ?_
      rintro e w4 ⟨rfl, hb⟩
      replace q0 := cell_later hb q0
      replace q1 := cell_later hb q1
      replace q2 := cell_later hb q2
      replace HU := Lib.hid (HU.out.later hb)
      clear hb
      obtain ⟨b0, b1, r0, r1, r2, f0, f1, f2, hB⟩ := HU.out
      rw [HRX.out, HNX.out]
      simp only [onlyR, errP, if_true]
      obtain ⟨m0, m1, m2⟩ := put3_of (x := .int .i64 R) (y := .int .i64 al) (z := .int .i64 O) r0 r1 r2
      go_wp2
      exact bodyPost_ret (v := pv R al O 0) (by simp [results, Tryd.results24, go_sem, m0, m1, m2]) rfl ⟨rfl, put3_below hB (by omega)⟩

theorem refUp_any (s a o S H : Int) (w : World) :
    Calls Tryd.prog 24 #[pt s a o, iv S H] w fun e w' => e = .returned (upV (Pit.up s a o S H)) ∧ Below w.heap.size w w' := by
  cases hr : Pit.right s a o with
  | false => rw [up_val1 hr]; exact refUp_no1 s a o S H w hr
  | true =>
    have h := (Pit.right_iff _ _ _).1 hr
    obtain ⟨l0, l1⟩ := lin_bounds h
    have n0 := h.n0
    have nM := h.nM
    have far : (S < -100 ∨ 100 < S ∨ H < -200 ∨ 200 < H ∨ Pit.lin s o + S + 7 < 0) → Pit.up s a o S H = none := fun hf => Pit.up_none fun s' a' o' _ hq hl hn => by
      obtain ⟨k0, k1⟩ := lin_bounds hq
      have m0 := hq.n0
      have mM := hq.nM
      omega
    by_cases c1 : S < -100
    · rw [far (by omega)]; exact refUp_s0 s a o S H w hr _ _ (Lib.hid rfl) (Lib.hid rfl) c1
    by_cases c2 : 100 < S
    · rw [far (by omega)]; exact refUp_s1 s a o S H w hr _ _ (Lib.hid rfl) (Lib.hid rfl) c1 c2
    by_cases c3 : H < -200
    · rw [far (by omega)]; exact refUp_h0 s a o S H w hr _ _ (Lib.hid rfl) (Lib.hid rfl) c1 c2 c3
    by_cases c4 : 200 < H
    · rw [far (by omega)]; exact refUp_h1 s a o S H w hr _ _ (Lib.hid rfl) (Lib.hid rfl) c1 c2 c3 c4
    by_cases c5 : Pit.lin s o + S + 7 < 0
    · rw [far (by omega)]; exact refUp_neg s a o S H w hr _ _ (Lib.hid rfl) (Lib.hid rfl) c1 c2 c3 c4 l0 l1 _ rfl c5
    have e1 : (Pit.lin s o + S + 7).tmod 7 = (Pit.lin s o + S + 7) % 7 := Int.tmod_eq_emod_of_nonneg (by omega)
    have e2 : (Pit.lin s o + S + 7).tdiv 7 = (Pit.lin s o + S + 7) / 7 := Int.tdiv_eq_ediv_of_nonneg (by omega)
    have hlin : Pit.lin ((Pit.lin s o + S + 7) % 7) ((Pit.lin s o + S + 7) / 7 - 1) = Pit.lin s o + S := by
      rw [Pit.lin_eq ((Pit.lin s o + S + 7) % 7)]; omega
    cases hu : Pit.up s a o S H with
    | none =>
      refine refUp_none s a o S H w hr _ _ (Lib.hid rfl) (Lib.hid rfl) c1 c2 c3 c4 l0 l1 _ rfl c5 _ _ _ e1 rfl e2 rfl rfl (by omega) (by omega) n0 nM (Lib.hid ?_)
      intro al _ _ hra hna
      have := Pit.up_complete h ((Pit.right_iff _ _ _).1 hra) hlin hna
      rw [hu] at this
      cases this
    | some q =>
      obtain ⟨R, X, O⟩ := q
      obtain ⟨_, hq, hl, hn⟩ := Pit.up_sound hu
      obtain ⟨q0, q1, q2, q3, q4, q5, -⟩ := hq.all
      have eR : (Pit.lin s o + S + 7) % 7 = R := by rw [← hl, Pit.lin_eq]; omega
      have eD : (Pit.lin s o + S + 7) / 7 = O + 1 := by rw [← hl, Pit.lin_eq]; omega
      rw [eR] at e1
      rw [eD] at e2
      refine refUp_some s a o S H w hr _ _ (Lib.hid rfl) (Lib.hid rfl) c1 c2 c3 c4 l0 l1 _ rfl c5 R (O + 1) O e1 eR e2 eD (by omega) (by omega) (by omega) n0 nM X q2 q3 (Lib.hid (Pit.right_true hq)) (Lib.hid hn) (Lib.hid ?_)
      intro al _ ha _ hna
      rw [← hn, Pit.num_eq, Pit.num_eq] at hna
      omega
end Go.Proofs.YtoopchnncjfjoaaDoor
