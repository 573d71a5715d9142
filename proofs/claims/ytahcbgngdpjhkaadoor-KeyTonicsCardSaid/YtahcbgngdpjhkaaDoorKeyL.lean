/-
  '==' on pitches and keys; the contract of the statements' own awake().
-/
import Derived.Test.YtahcbgngdpjhkaaDoorKeyK
namespace Go.Proofs.YtahcbgngdpjhkaaDoor
open Go.RowKit

/-- Are two pitches, two keys the same, field by field? -/
def eqP (s a o t b p : Int) : Bool := s == t && (a == b && o == p)
def eqK (f : Int) (m : Bool) (g : Int) (n : Bool) : Bool := f == g && m == n
theorem eqP_iff (s a o t b p : Int) : eqP s a o t b p = true ↔ s = t ∧ a = b ∧ o = p := by unfold eqP; simp
theorem eqP_self (s a o : Int) : eqP s a o s a o = true := (eqP_iff _ _ _ _ _ _).2 ⟨rfl, rfl, rfl⟩
theorem eqK_self (f : Int) (m : Bool) : eqK f m f m = true := by unfold eqK; simp
theorem guardP : Tryd.prog.eqGuardType Tryd.prog.depth 42 = false := by kernel_rfl
theorem guardK : Tryd.prog.eqGuardType Tryd.prog.depth 23 = false := by kernel_rfl
theorem eql_pt (s a o t b p : Int) (w : World) : (binOp .eql 42 (pt s a o) (pt t b p)).run Tryd.prog w = .ok (.bool (eqP s a o t b p)) w := by
  have u3 := Tryd.underlying3
  have a3 := Tryd.isAgg3
  have z3 := Tryd.sizeOf3
  have hS : Tryd.prog.underlying 42 = some (.struct (Tryd.prog.fieldsOf 42)) := by kernel_rfl
  have hp : Tryd.prog.stoodInHeld 42 = false := by kernel_rfl
  rw [run_eql_struct, show (10000 : Nat) = 9999 + 1 from rfl, run_equalIn_agg w 9999 42 _ _ hS hp]
  simp only [Program.fieldsOf, Tryd.underlying42]
  go_simp
  unfold eqP
  by_cases h1 : s = t <;> by_cases h2 : a = b <;> by_cases h3 : o = p <;> simp [h1, h2, h3]
theorem eql_ky (f : Int) (m : Bool) (g : Int) (n : Bool) (w : World) : (binOp .eql 23 (ky f m) (ky g n)).run Tryd.prog w = .ok (.bool (eqK f m g n)) w := by
  have u3 := Tryd.underlying3
  have a3 := Tryd.isAgg3
  have z3 := Tryd.sizeOf3
  have u4 := Tryd.underlying4
  have a4 := Tryd.isAgg4
  have z4 := Tryd.sizeOf4
  have hS : Tryd.prog.underlying 23 = some (.struct (Tryd.prog.fieldsOf 23)) := by kernel_rfl
  have hp : Tryd.prog.stoodInHeld 23 = false := by kernel_rfl
  rw [run_eql_struct, show (10000 : Nat) = 9999 + 1 from rfl, run_equalIn_agg w 9999 23 _ _ hS hp]
  simp only [Program.fieldsOf, Tryd.underlying23]
  go_simp
  unfold eqK
  by_cases h1 : f = g <;> cases m <;> cases n <;> simp [h1]
theorem neq_pt (s a o t b p : Int) (w : World) : (binOp .neq 42 (pt s a o) (pt t b p)).run Tryd.prog w = .ok (.bool (!eqP s a o t b p)) w := by
  have u3 := Tryd.underlying3
  have a3 := Tryd.isAgg3
  have z3 := Tryd.sizeOf3
  have hS : Tryd.prog.underlying 42 = some (.struct (Tryd.prog.fieldsOf 42)) := by kernel_rfl
  have hp : Tryd.prog.stoodInHeld 42 = false := by kernel_rfl
  rw [run_neq_struct, show (10000 : Nat) = 9999 + 1 from rfl, run_equalIn_agg w 9999 42 _ _ hS hp]
  simp only [Program.fieldsOf, Tryd.underlying42]
  go_simp
  unfold eqP
  by_cases h1 : s = t <;> by_cases h2 : a = b <;> by_cases h3 : o = p <;> simp [h1, h2, h3]
theorem neq_ky (f : Int) (m : Bool) (g : Int) (n : Bool) (w : World) : (binOp .neq 23 (ky f m) (ky g n)).run Tryd.prog w = .ok (.bool (!eqK f m g n)) w := by
  have u3 := Tryd.underlying3
  have a3 := Tryd.isAgg3
  have z3 := Tryd.sizeOf3
  have u4 := Tryd.underlying4
  have a4 := Tryd.isAgg4
  have z4 := Tryd.sizeOf4
  have hS : Tryd.prog.underlying 23 = some (.struct (Tryd.prog.fieldsOf 23)) := by kernel_rfl
  have hp : Tryd.prog.stoodInHeld 23 = false := by kernel_rfl
  rw [run_neq_struct, show (10000 : Nat) = 9999 + 1 from rfl, run_equalIn_agg w 9999 23 _ _ hS hp]
  simp only [Program.fieldsOf, Tryd.underlying23]
  go_simp
  unfold eqK
  by_cases h1 : f = g <;> cases m <;> cases n <;> simp [h1]

theorem ex1 (w : World) : Calls Tryd.prog 22 #[ky (-3) true, .int .i64 2] w fun e w' => e = .returned (.tuple #[.int .i64 (-1), .int .i64 0]) ∧ Below w.heap.size w w' := by
  have h := alter_any (-3) true 2 w
  rw [show Key.alt (-3) 2 = -1 from by decide +kernel, show Key.eKS (-3) 2 = 0 from by decide +kernel] at h
  exact h
theorem ex2 (w : World) : Calls Tryd.prog 24 #[ky (-3) true] w fun e w' => (∃ g cap, e = .returned (.tuple #[.slice (some ⟨g, 0, none⟩) 7 cap, .int .i64 0]) ∧ w'.cell? ⟨g, 18, none⟩ = some (.int .i64 6) ∧ w'.cell? ⟨g, 19, none⟩ = some (.int .i64 (-1)) ∧ w'.cell? ⟨g, 20, none⟩ = some (.int .i64 4)) ∧ Below w.heap.size w w' := by
  refine (scale_yes (-3) true w (by decide) (by decide)).mono ?_
  rintro e w' ⟨⟨v, he, g, cap, rfl, hc⟩, hb⟩
  have h6 := hc 6 (by decide)
  rw [show scP (-3) true 6 = (6, -1, 4) from by decide +kernel] at h6
  exact ⟨⟨g, cap, he, h6.1, h6.2.1, h6.2.2⟩, hb⟩
theorem ex3 (w : World) : Calls Tryd.prog 27 #[ky (-3) true, iv 1 2] w fun e w' => e = .returned (kv (-1) true 0) ∧ Below w.heap.size w w' := by
  have h := move_any (-3) true 1 2 w
  rw [show Key.mvF (-3) 1 2 = -1 from by decide +kernel, show Key.mvM (-3) true 1 2 = true from by decide +kernel, show Key.mvE (-3) 1 2 = 0 from by decide +kernel] at h
  exact h
theorem ex4 (w : World) (hR : Lett w) : Calls Tryd.prog 18 #[ky (-3) true] w fun e w' => e = .returned (.tuple #[.string ⟨#[67, 32, 109, 105, 110, 111, 114]⟩, .int .i64 0]) ∧ Below w.heap.size w w' := by
  have h := text_any (-3) true w hR
  rw [show Key.txE (-3) true = [67, 32, 109, 105, 110, 111, 114] from by decide +kernel, show Key.eK (-3) = 0 from by decide +kernel] at h
  exact h

set_option maxRecDepth 100000 in
set_option maxHeartbeats 4000000 in
theorem awake_any (w : World) (hR : Lett w) : Calls Tryd.prog 17 #[] w fun e w' => e = .returned (.bool true) ∧ Below w.heap.size w w' := by
  have hgP := guardP
  have heP := eql_pt
  have hsP := eqP_self
  have ho3 : Key.okF (-3) = true := by decide +kernel
  have ho8 : Key.okF 8 = false := by decide +kernel
  have hB0 : Below w.heap.size w w := Below.refl _ _
  go_enter Tryd.func17, Tryd.ntmps17
  go_wp2_with fail
  have hR' := hR.below (hB0.alloc hB0.size (.cells #[.int .i64 (-3), .bool true] 23))
  refine (ex1 _).mono ?_
  rintro e w1 ⟨rfl, hb1⟩
  clear hR'
  have hs1 : Below w.heap.size w w1 := Below.trans (by repeat (first | exact Below.refl _ _ | refine Below.alloc ?_ (by simp <;> omega) _)) (hb1.mono (by simp <;> omega))
  have c_k_0 : w1.cell? ⟨w.heap.size, 0, none⟩ = some (.int .i64 (-3)) := (hb1.cell (by simp <;> omega)).trans (by go_simp)
  have c_k_1 : w1.cell? ⟨w.heap.size, 1, none⟩ = some (.bool true) := (hb1.cell (by simp <;> omega)).trans (by go_simp)
  have z_k := World.block_lt_of_cell? _ _ c_k_0
  have hB1 := below_two hB0 hs1
  clear hB0 hs1 hb1
  go_wp2_with fail
  have hR' := hR.below hB1
  refine (ex2 _).mono ?_
  rintro e w2 ⟨⟨g, cap, rfl, c_l_0, c_l_1, c_l_2⟩, hb2⟩
  clear hR'
  have hs2 := hb2
  replace c_k_0 := cell_later hs2 c_k_0
  replace c_k_1 := cell_later hs2 c_k_1
  clear z_k
  have z_k := World.block_lt_of_cell? _ _ c_k_0
  have hB2 := below_two hB1 hs2
  clear hB1 hs2
  go_wp2_with fail
  have hR' := hR.below hB2
  refine (ex3 _).mono ?_
  rintro e w3 ⟨rfl, hb3⟩
  clear hR'
  have hs3 := hb3
  replace c_k_0 := cell_later hs3 c_k_0
  replace c_k_1 := cell_later hs3 c_k_1
  replace c_l_0 := cell_later hs3 c_l_0
  replace c_l_1 := cell_later hs3 c_l_1
  replace c_l_2 := cell_later hs3 c_l_2
  clear z_k
  have z_k := World.block_lt_of_cell? _ _ c_k_0
  have z_l := World.block_lt_of_cell? _ _ c_l_0
  have hB3 := below_two hB2 hs3
  clear hB2 hs3
  go_wp2_with fail
  have hR' := hR.below (hB3.alloc hB3.size (.cells #[.int .i64 (-1), .bool true] 23))
  refine (ex4 _ hR').mono ?_
  rintro e w4 ⟨rfl, hb4⟩
  clear hR'
  have hs4 : Below w3.heap.size w3 w4 := Below.trans (by repeat (first | exact Below.refl _ _ | refine Below.alloc ?_ (by simp <;> omega) _)) (hb4.mono (by simp <;> omega))
  replace c_k_0 := cell_later hs4 c_k_0
  replace c_k_1 := cell_later hs4 c_k_1
  replace c_l_0 := cell_later hs4 c_l_0
  replace c_l_1 := cell_later hs4 c_l_1
  replace c_l_2 := cell_later hs4 c_l_2
  have c_m_0 : w4.cell? ⟨w3.heap.size, 0, none⟩ = some (.int .i64 (-1)) := (hb4.cell (by simp <;> omega)).trans (by go_simp)
  have c_m_1 : w4.cell? ⟨w3.heap.size, 1, none⟩ = some (.bool true) := (hb4.cell (by simp <;> omega)).trans (by go_simp)
  clear z_k
  have z_k := World.block_lt_of_cell? _ _ c_k_0
  clear z_l
  have z_l := World.block_lt_of_cell? _ _ c_l_0
  have z_m := World.block_lt_of_cell? _ _ c_m_0
  have hB4 := below_two hB3 hs4
  clear hB3 hs4 hb4
  go_wp2_with fail
  have hR' := hR.below hB4
  refine (kright_yes true _ (by decide) (by decide)).mono ?_
  rintro e w5 ⟨rfl, hb5⟩
  clear hR'
  have hs5 := hb5
  replace c_k_0 := cell_later hs5 c_k_0
  replace c_k_1 := cell_later hs5 c_k_1
  replace c_l_0 := cell_later hs5 c_l_0
  replace c_l_1 := cell_later hs5 c_l_1
  replace c_l_2 := cell_later hs5 c_l_2
  replace c_m_0 := cell_later hs5 c_m_0
  replace c_m_1 := cell_later hs5 c_m_1
  clear z_k
  have z_k := World.block_lt_of_cell? _ _ c_k_0
  clear z_l
  have z_l := World.block_lt_of_cell? _ _ c_l_0
  clear z_m
  have z_m := World.block_lt_of_cell? _ _ c_m_0
  have hB5 := below_two hB4 hs5
  clear hB4 hs5
  go_wp2_with fail
  have hR' := hR.below hB5
  refine (kright_no (f := 8) false _ (by decide +kernel)).mono ?_
  rintro e w6 ⟨rfl, hb6⟩
  clear hR'
  have hs6 := hb6
  replace c_k_0 := cell_later hs6 c_k_0
  replace c_k_1 := cell_later hs6 c_k_1
  replace c_l_0 := cell_later hs6 c_l_0
  replace c_l_1 := cell_later hs6 c_l_1
  replace c_l_2 := cell_later hs6 c_l_2
  replace c_m_0 := cell_later hs6 c_m_0
  replace c_m_1 := cell_later hs6 c_m_1
  clear z_k
  have z_k := World.block_lt_of_cell? _ _ c_k_0
  clear z_l
  have z_l := World.block_lt_of_cell? _ _ c_l_0
  clear z_m
  have z_m := World.block_lt_of_cell? _ _ c_m_0
  have hB6 := below_two hB5 hs6
  clear hB5 hs6
  go_wp2
  go_ret
  exact ⟨rfl, hB6⟩
end Go.Proofs.YtahcbgngdpjhkaaDoor
