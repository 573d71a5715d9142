/-
  '==' on pitches and intervals; the contract of the statements' own awake().
-/
import Derived.Test.YtoopchnncjfjoaaDoorPitC
import Derived.Test.YtoopchnncjfjoaaDoorPitD
import Derived.Test.YtoopchnncjfjoaaDoorPitG
import Derived.Test.YtoopchnncjfjoaaDoorPitH
namespace Go.Proofs.YtoopchnncjfjoaaDoor
open Go.RowKit

/-- Are two pitches, two intervals the same, field by field? -/
def eqP (s a o t b p : Int) : Bool := s == t && (a == b && o == p)
def eqI (x y u v : Int) : Bool := x == u && y == v
theorem eqP_iff (s a o t b p : Int) : eqP s a o t b p = true ↔ s = t ∧ a = b ∧ o = p := by unfold eqP; simp
theorem eqI_iff (x y u v : Int) : eqI x y u v = true ↔ x = u ∧ y = v := by unfold eqI; simp
theorem eqP_self (s a o : Int) : eqP s a o s a o = true := (eqP_iff _ _ _ _ _ _).2 ⟨rfl, rfl, rfl⟩
theorem eqI_self (x y : Int) : eqI x y x y = true := (eqI_iff _ _ _ _).2 ⟨rfl, rfl⟩
theorem guardP : Tryd.prog.eqGuardType Tryd.prog.depth 23 = false := by kernel_rfl
theorem guardI : Tryd.prog.eqGuardType Tryd.prog.depth 25 = false := by kernel_rfl
theorem eql_pt (s a o t b p : Int) (w : World) : (binOp .eql 23 (pt s a o) (pt t b p)).run Tryd.prog w = .ok (.bool (eqP s a o t b p)) w := by
  have u3 := Tryd.underlying3
  have a3 := Tryd.isAgg3
  have z3 := Tryd.sizeOf3
  have hS : Tryd.prog.underlying 23 = some (.struct (Tryd.prog.fieldsOf 23)) := by kernel_rfl
  have hp : Tryd.prog.stoodInHeld 23 = false := by kernel_rfl
  rw [run_eql_struct, show (10000 : Nat) = 9999 + 1 from rfl, run_equalIn_agg w 9999 23 _ _ hS hp]
  simp only [Program.fieldsOf, Tryd.underlying23]
  go_simp
  unfold eqP
  by_cases h1 : s = t <;> by_cases h2 : a = b <;> by_cases h3 : o = p <;> simp [h1, h2, h3]
theorem eql_iv (x y u v : Int) (w : World) : (binOp .eql 25 (iv x y) (iv u v)).run Tryd.prog w = .ok (.bool (eqI x y u v)) w := by
  have u3 := Tryd.underlying3
  have a3 := Tryd.isAgg3
  have z3 := Tryd.sizeOf3
  have hS : Tryd.prog.underlying 25 = some (.struct (Tryd.prog.fieldsOf 25)) := by kernel_rfl
  have hp : Tryd.prog.stoodInHeld 25 = false := by kernel_rfl
  rw [run_eql_struct, show (10000 : Nat) = 9999 + 1 from rfl, run_equalIn_agg w 9999 25 _ _ hS hp]
  simp only [Program.fieldsOf, Tryd.underlying25]
  go_simp
  unfold eqI
  by_cases h1 : x = u <;> by_cases h2 : y = v <;> simp [h1, h2]
theorem neq_pt (s a o t b p : Int) (w : World) : (binOp .neq 23 (pt s a o) (pt t b p)).run Tryd.prog w = .ok (.bool (!eqP s a o t b p)) w := by
  have u3 := Tryd.underlying3
  have a3 := Tryd.isAgg3
  have z3 := Tryd.sizeOf3
  have hS : Tryd.prog.underlying 23 = some (.struct (Tryd.prog.fieldsOf 23)) := by kernel_rfl
  have hp : Tryd.prog.stoodInHeld 23 = false := by kernel_rfl
  rw [run_neq_struct, show (10000 : Nat) = 9999 + 1 from rfl, run_equalIn_agg w 9999 23 _ _ hS hp]
  simp only [Program.fieldsOf, Tryd.underlying23]
  go_simp
  unfold eqP
  by_cases h1 : s = t <;> by_cases h2 : a = b <;> by_cases h3 : o = p <;> simp [h1, h2, h3]
theorem neq_iv (x y u v : Int) (w : World) : (binOp .neq 25 (iv x y) (iv u v)).run Tryd.prog w = .ok (.bool (!eqI x y u v)) w := by
  have u3 := Tryd.underlying3
  have a3 := Tryd.isAgg3
  have z3 := Tryd.sizeOf3
  have hS : Tryd.prog.underlying 25 = some (.struct (Tryd.prog.fieldsOf 25)) := by kernel_rfl
  have hp : Tryd.prog.stoodInHeld 25 = false := by kernel_rfl
  rw [run_neq_struct, show (10000 : Nat) = 9999 + 1 from rfl, run_equalIn_agg w 9999 25 _ _ hS hp]
  simp only [Program.fieldsOf, Tryd.underlying25]
  go_simp
  unfold eqI
  by_cases h1 : x = u <;> by_cases h2 : y = v <;> simp [h1, h2]
theorem ex1 (w : World) (hR : Ready w) : Calls Tryd.prog 14 #[pt 3 1 4] w fun e w' => e = .returned (.tuple #[.int .i64 66, .int .i64 0]) ∧ Below w.heap.size w w' := by
  have h := numberE 3 1 4 w hR
  rw [show onlyR (Pit.right 3 1 4) (Pit.num 3 1 4) = 66 from by decide +kernel, show errP (Pit.right 3 1 4) = 0 from by decide +kernel] at h
  exact h
theorem ex2 (w : World) (hR : Ready w) : Calls Tryd.prog 16 #[pt 3 1 4] w fun e w' => e = .returned (.tuple #[.int .i64 31, .int .i64 0]) ∧ Below w.heap.size w w' := by
  have h := lineE 3 1 4 w hR
  rw [show onlyR (Pit.right 3 1 4) (Pit.lin 3 4) = 31 from by decide +kernel, show errP (Pit.right 3 1 4) = 0 from by decide +kernel] at h
  exact h
theorem ex3 (w : World) (hR : Ready w) : Calls Tryd.prog 18 #[pt 3 1 4] w fun e w' => e = .returned (.tuple #[.string ⟨#[70, 35, 52]⟩, .int .i64 0]) ∧ Below w.heap.size w w' := by
  have h := text_any 3 1 4 w hR
  rw [show txtV (Pit.right 3 1 4) 3 1 4 = [70, 35, 52] from by decide +kernel, show errP (Pit.right 3 1 4) = 0 from by decide +kernel] at h
  exact h
theorem ex4 (w : World) (hR : Ready w) : Calls Tryd.prog 23 #[pt 0 0 4, iv 2 3] w fun e w' => e = .returned (pv 2 (-1) 4 0) ∧ Below w.heap.size w w' := by
  have h := up_any 0 0 4 2 3 w hR
  rw [show Pit.up 0 0 4 2 3 = some (2, -1, 4) from by decide +kernel] at h
  exact h
theorem ex5 (w : World) (hR : Ready w) : Calls Tryd.prog 23 #[pt 0 0 4, iv 2 9] w fun e w' => e = .returned (pv 0 0 0 20) ∧ Below w.heap.size w w' := by
  have h := up_any 0 0 4 2 9 w hR
  rw [show Pit.up 0 0 4 2 9 = none from by decide +kernel] at h
  exact h
theorem ex6 (w : World) (hR : Ready w) : Calls Tryd.prog 29 #[.string ⟨#[67, 98, 52]⟩] w fun e w' => e = .returned (pv 0 (-1) 4 0) ∧ Below w.heap.size w w' := by
  have h := read_any ⟨#[67, 98, 52]⟩ w hR (by decide)
  rw [show Pit.rd (ByteArray.mk #[67, 98, 52]).data.toList = some (0, -1, 4) from by decide +kernel] at h
  exact h
theorem ex7 (w : World) (hR : Ready w) : Calls Tryd.prog 29 #[.string ⟨#[71, 35, 35, 57]⟩] w fun e w' => e = .returned (pv 0 0 0 21) ∧ Below w.heap.size w w' := by
  have h := read_any ⟨#[71, 35, 35, 57]⟩ w hR (by decide)
  rw [show Pit.rd (ByteArray.mk #[71, 35, 35, 57]).data.toList = none from by decide +kernel] at h
  exact h
theorem ex8 (w : World) (hR : Ready w) : Calls Tryd.prog 25 #[pt 0 0 4, pt 3 1 4] w fun e w' => e = .returned (.tuple #[iv 3 6, .int .i64 0]) ∧ Below w.heap.size w w' := by
  have h := between_any 0 0 4 3 1 4 w hR
  rw [show btS (Pit.right 0 0 4 && Pit.right 3 1 4) 0 4 3 4 = 3 from by decide +kernel, show btH (Pit.right 0 0 4 && Pit.right 3 1 4) 0 0 4 3 1 4 = 6 from by decide +kernel, show errP (Pit.right 0 0 4 && Pit.right 3 1 4) = 0 from by decide +kernel] at h
  exact h
theorem ex9 (w : World) (hR : Ready w) : Calls Tryd.prog 14 #[pt 7 0 0] w fun e w' => e = .returned (.tuple #[.int .i64 0, .int .i64 20]) ∧ Below w.heap.size w w' := by
  have h := numberE 7 0 0 w hR
  rw [show onlyR (Pit.right 7 0 0) (Pit.num 7 0 0) = 0 from by decide +kernel, show errP (Pit.right 7 0 0) = 20 from by decide +kernel] at h
  exact h
theorem ex10 (w : World) (hR : Ready w) : Calls Tryd.prog 20 #[pt 3 1 4] w fun e w' => e = .returned (.bool true) ∧ Below w.heap.size w w' := by
  have h := right_any 3 1 4 w hR
  rw [show Pit.right 3 1 4 = true from by decide +kernel] at h
  exact h
theorem ex11 (w : World) (hR : Ready w) : Calls Tryd.prog 27 #[pt 0 (-1) 4, pt 6 0 3] w fun e w' => e = .returned (.int .i64 1) ∧ Below w.heap.size w w' := by
  have h := compare_any 0 (-1) 4 6 0 3 w hR
  rw [show Pit.cmpP (Pit.right 0 (-1) 4 && Pit.right 6 0 3) 0 (-1) 4 6 0 3 = 1 from by decide +kernel] at h
  exact h

set_option maxRecDepth 100000 in
set_option maxHeartbeats 4000000 in
theorem awake_any (w : World) (hR : Ready w) : Calls Tryd.prog 12 #[] w fun e w' => e = .returned (.bool true) ∧ Below w.heap.size w w' := by
  have hgP := guardP
  have hgI := guardI
  have heP := eql_pt
  have heI := eql_iv
  have hsP := eqP_self
  have hsI := eqI_self
  have hB0 : Below w.heap.size w w := Below.refl _ _
  go_enter Tryd.func12, Tryd.ntmps12
  go_wp2_with fail
  have hR' := hR.below (hB0.alloc hB0.size (.cells #[.int .i64 3, .int .i64 1, .int .i64 4] 23))
  refine (ex1 _ hR').mono ?_
  rintro e w1 ⟨rfl, hb1⟩
  clear hR'
  have hs1 : Below w.heap.size w w1 := Below.trans (by repeat (first | exact Below.refl _ _ | refine Below.alloc ?_ (by simp <;> omega) _)) (hb1.mono (by simp <;> omega))
  have c_f_0 : w1.cell? ⟨w.heap.size, 0, none⟩ = some (.int .i64 3) := (hb1.cell (by simp <;> omega)).trans (by go_simp)
  have c_f_1 : w1.cell? ⟨w.heap.size, 1, none⟩ = some (.int .i64 1) := (hb1.cell (by simp <;> omega)).trans (by go_simp)
  have c_f_2 : w1.cell? ⟨w.heap.size, 2, none⟩ = some (.int .i64 4) := (hb1.cell (by simp <;> omega)).trans (by go_simp)
  have z_f := World.block_lt_of_cell? _ _ c_f_0
  have hB1 := below_two hB0 hs1
  clear hB0 hs1 hb1
  go_wp2_with fail
  have hR' := hR.below hB1
  refine (ex2 _ hR').mono ?_
  rintro e w2 ⟨rfl, hb2⟩
  clear hR'
  have hs2 := hb2
  replace c_f_0 := cell_later hs2 c_f_0
  replace c_f_1 := cell_later hs2 c_f_1
  replace c_f_2 := cell_later hs2 c_f_2
  clear z_f
  have z_f := World.block_lt_of_cell? _ _ c_f_0
  have hB2 := below_two hB1 hs2
  clear hB1 hs2
  go_wp2_with fail
  have hR' := hR.below hB2
  refine (ex3 _ hR').mono ?_
  rintro e w3 ⟨rfl, hb3⟩
  clear hR'
  have hs3 := hb3
  replace c_f_0 := cell_later hs3 c_f_0
  replace c_f_1 := cell_later hs3 c_f_1
  replace c_f_2 := cell_later hs3 c_f_2
  clear z_f
  have z_f := World.block_lt_of_cell? _ _ c_f_0
  have hB3 := below_two hB2 hs3
  clear hB2 hs3
  go_wp2_with fail
  have hR' := hR.below hB3
  refine (ex4 _ hR').mono ?_
  rintro e w4 ⟨rfl, hb4⟩
  clear hR'
  have hs4 := hb4
  replace c_f_0 := cell_later hs4 c_f_0
  replace c_f_1 := cell_later hs4 c_f_1
  replace c_f_2 := cell_later hs4 c_f_2
  clear z_f
  have z_f := World.block_lt_of_cell? _ _ c_f_0
  have hB4 := below_two hB3 hs4
  clear hB3 hs4
  go_wp2_with fail
  have hR' := hR.below (hB4.alloc hB4.size (.cells #[.int .i64 2, .int .i64 (-1), .int .i64 4] 23))
  refine (ex5 _ hR').mono ?_
  rintro e w5 ⟨rfl, hb5⟩
  clear hR'
  have hs5 : Below w4.heap.size w4 w5 := Below.trans (by repeat (first | exact Below.refl _ _ | refine Below.alloc ?_ (by simp <;> omega) _)) (hb5.mono (by simp <;> omega))
  replace c_f_0 := cell_later hs5 c_f_0
  replace c_f_1 := cell_later hs5 c_f_1
  replace c_f_2 := cell_later hs5 c_f_2
  have c_u_0 : w5.cell? ⟨w4.heap.size, 0, none⟩ = some (.int .i64 2) := (hb5.cell (by simp <;> omega)).trans (by go_simp)
  have c_u_1 : w5.cell? ⟨w4.heap.size, 1, none⟩ = some (.int .i64 (-1)) := (hb5.cell (by simp <;> omega)).trans (by go_simp)
  have c_u_2 : w5.cell? ⟨w4.heap.size, 2, none⟩ = some (.int .i64 4) := (hb5.cell (by simp <;> omega)).trans (by go_simp)
  clear z_f
  have z_f := World.block_lt_of_cell? _ _ c_f_0
  have z_u := World.block_lt_of_cell? _ _ c_u_0
  have hB5 := below_two hB4 hs5
  clear hB4 hs5 hb5
  go_wp2_with fail
  have hR' := hR.below (hB5.alloc hB5.size (.cells #[.int .i64 0, .int .i64 0, .int .i64 0] 23))
  refine (ex6 _ hR').mono ?_
  rintro e w6 ⟨rfl, hb6⟩
  clear hR'
  have hs6 : Below w5.heap.size w5 w6 := Below.trans (by repeat (first | exact Below.refl _ _ | refine Below.alloc ?_ (by simp <;> omega) _)) (hb6.mono (by simp <;> omega))
  replace c_f_0 := cell_later hs6 c_f_0
  replace c_f_1 := cell_later hs6 c_f_1
  replace c_f_2 := cell_later hs6 c_f_2
  replace c_u_0 := cell_later hs6 c_u_0
  replace c_u_1 := cell_later hs6 c_u_1
  replace c_u_2 := cell_later hs6 c_u_2
  clear z_f
  have z_f := World.block_lt_of_cell? _ _ c_f_0
  clear z_u
  have z_u := World.block_lt_of_cell? _ _ c_u_0
  have hB6 := below_two hB5 hs6
  clear hB5 hs6 hb6
  go_wp2_with fail
  have hR' := hR.below (hB6.alloc hB6.size (.cells #[.int .i64 0, .int .i64 (-1), .int .i64 4] 23))
  refine (ex7 _ hR').mono ?_
  rintro e w7 ⟨rfl, hb7⟩
  clear hR'
  have hs7 : Below w6.heap.size w6 w7 := Below.trans (by repeat (first | exact Below.refl _ _ | refine Below.alloc ?_ (by simp <;> omega) _)) (hb7.mono (by simp <;> omega))
  replace c_f_0 := cell_later hs7 c_f_0
  replace c_f_1 := cell_later hs7 c_f_1
  replace c_f_2 := cell_later hs7 c_f_2
  replace c_u_0 := cell_later hs7 c_u_0
  replace c_u_1 := cell_later hs7 c_u_1
  replace c_u_2 := cell_later hs7 c_u_2
  have c_r_0 : w7.cell? ⟨w6.heap.size, 0, none⟩ = some (.int .i64 0) := (hb7.cell (by simp <;> omega)).trans (by go_simp)
  have c_r_1 : w7.cell? ⟨w6.heap.size, 1, none⟩ = some (.int .i64 (-1)) := (hb7.cell (by simp <;> omega)).trans (by go_simp)
  have c_r_2 : w7.cell? ⟨w6.heap.size, 2, none⟩ = some (.int .i64 4) := (hb7.cell (by simp <;> omega)).trans (by go_simp)
  clear z_f
  have z_f := World.block_lt_of_cell? _ _ c_f_0
  have z_r := World.block_lt_of_cell? _ _ c_r_0
  clear z_u
  have z_u := World.block_lt_of_cell? _ _ c_u_0
  have hB7 := below_two hB6 hs7
  clear hB6 hs7 hb7
  go_wp2_with fail
  have hR' := hR.below (hB7.alloc hB7.size (.cells #[.int .i64 0, .int .i64 0, .int .i64 0] 23))
  refine (ex8 _ hR').mono ?_
  rintro e w8 ⟨rfl, hb8⟩
  clear hR'
  have hs8 : Below w7.heap.size w7 w8 := Below.trans (by repeat (first | exact Below.refl _ _ | refine Below.alloc ?_ (by simp <;> omega) _)) (hb8.mono (by simp <;> omega))
  replace c_f_0 := cell_later hs8 c_f_0
  replace c_f_1 := cell_later hs8 c_f_1
  replace c_f_2 := cell_later hs8 c_f_2
  replace c_u_0 := cell_later hs8 c_u_0
  replace c_u_1 := cell_later hs8 c_u_1
  replace c_u_2 := cell_later hs8 c_u_2
  replace c_r_0 := cell_later hs8 c_r_0
  replace c_r_1 := cell_later hs8 c_r_1
  replace c_r_2 := cell_later hs8 c_r_2
  clear z_f
  have z_f := World.block_lt_of_cell? _ _ c_f_0
  clear z_r
  have z_r := World.block_lt_of_cell? _ _ c_r_0
  clear z_u
  have z_u := World.block_lt_of_cell? _ _ c_u_0
  have hB8 := below_two hB7 hs8
  clear hB7 hs8 hb8
  go_wp2_with fail
  have hR' := hR.below (hB8.alloc hB8.size (.cells #[.int .i64 3, .int .i64 6] 25))
  refine (ex9 _ hR').mono ?_
  rintro e w9 ⟨rfl, hb9⟩
  clear hR'
  have hs9 : Below w8.heap.size w8 w9 := Below.trans (by repeat (first | exact Below.refl _ _ | refine Below.alloc ?_ (by simp <;> omega) _)) (hb9.mono (by simp <;> omega))
  replace c_f_0 := cell_later hs9 c_f_0
  replace c_f_1 := cell_later hs9 c_f_1
  replace c_f_2 := cell_later hs9 c_f_2
  replace c_u_0 := cell_later hs9 c_u_0
  replace c_u_1 := cell_later hs9 c_u_1
  replace c_u_2 := cell_later hs9 c_u_2
  replace c_r_0 := cell_later hs9 c_r_0
  replace c_r_1 := cell_later hs9 c_r_1
  replace c_r_2 := cell_later hs9 c_r_2
  have c_b_0 : w9.cell? ⟨w8.heap.size, 0, none⟩ = some (.int .i64 3) := (hb9.cell (by simp <;> omega)).trans (by go_simp)
  have c_b_1 : w9.cell? ⟨w8.heap.size, 1, none⟩ = some (.int .i64 6) := (hb9.cell (by simp <;> omega)).trans (by go_simp)
  have z_b := World.block_lt_of_cell? _ _ c_b_0
  clear z_f
  have z_f := World.block_lt_of_cell? _ _ c_f_0
  clear z_r
  have z_r := World.block_lt_of_cell? _ _ c_r_0
  clear z_u
  have z_u := World.block_lt_of_cell? _ _ c_u_0
  have hB9 := below_two hB8 hs9
  clear hB8 hs9 hb9
  go_wp2_with fail
  have hR' := hR.below hB9
  refine (ex10 _ hR').mono ?_
  rintro e w10 ⟨rfl, hb10⟩
  clear hR'
  have hs10 := hb10
  replace c_f_0 := cell_later hs10 c_f_0
  replace c_f_1 := cell_later hs10 c_f_1
  replace c_f_2 := cell_later hs10 c_f_2
  replace c_u_0 := cell_later hs10 c_u_0
  replace c_u_1 := cell_later hs10 c_u_1
  replace c_u_2 := cell_later hs10 c_u_2
  replace c_r_0 := cell_later hs10 c_r_0
  replace c_r_1 := cell_later hs10 c_r_1
  replace c_r_2 := cell_later hs10 c_r_2
  replace c_b_0 := cell_later hs10 c_b_0
  replace c_b_1 := cell_later hs10 c_b_1
  clear z_b
  have z_b := World.block_lt_of_cell? _ _ c_b_0
  clear z_f
  have z_f := World.block_lt_of_cell? _ _ c_f_0
  clear z_r
  have z_r := World.block_lt_of_cell? _ _ c_r_0
  clear z_u
  have z_u := World.block_lt_of_cell? _ _ c_u_0
  have hB10 := below_two hB9 hs10
  clear hB9 hs10
  go_wp2_with fail
  have hR' := hR.below hB10
  refine (ex11 _ hR').mono ?_
  rintro e w11 ⟨rfl, hb11⟩
  clear hR'
  have hs11 := hb11
  clear c_f_0
  clear c_f_1
  clear c_f_2
  clear c_u_0
  clear c_u_1
  clear c_u_2
  clear c_r_0
  clear c_r_1
  clear c_r_2
  clear c_b_0
  clear c_b_1
  clear z_b
  clear z_f
  clear z_r
  clear z_u
  have hB11 := below_two hB10 hs11
  clear hB10 hs11
  go_wp2
  go_ret
  exact ⟨rfl, hB11⟩
end Go.Proofs.YtoopchnncjfjoaaDoor
