/-
  The contract of the reference's Text.
-/
import Derived.Test.YtahcbgngdpjhkaaDoorKeyM
import Derived.LoopN
namespace Go.Proofs.YtahcbgngdpjhkaaDoor
open Go.RowKit

theorem letterK_at {s : Int} (h0 : 0 ≤ s) (h6 : s ≤ 6) : ∃ l : UInt8, Key.leB s = [l] ∧ (ByteArray.mk #[67, 68, 69, 70, 71, 65, 66]).extract s.toNat (s + 1).toNat = ⟨[l].toArray⟩ := by
  have key : ∀ k : Fin 7, Key.leB (k.val : Int) = [(Key.leB (k.val : Int)).headD 0] ∧ ((ByteArray.mk #[67, 68, 69, 70, 71, 65, 66]).extract k.val (k.val + 1)).data.toList = [(Key.leB (k.val : Int)).headD 0] := by decide +kernel
  obtain ⟨e1, e2⟩ := key ⟨s.toNat, by omega⟩
  rw [show (s + 1).toNat = s.toNat + 1 by omega]
  simp only at e1 e2
  rw [show ((s.toNat : Nat) : Int) = s by omega] at e1 e2
  exact ⟨_, e1, ByteArray.ext (Array.ext' e2)⟩

set_option maxRecDepth 100000 in
set_option maxHeartbeats 4000000 in
theorem refText_no (f : Int) (m : Bool) (w : World) (h : Key.okF f = false) :
    Calls Tryd.prog 19 #[ky f m] w fun e w' => e = .returned (.tuple #[.string ⟨#[]⟩, .int .i64 30]) ∧ Below w.heap.size w w' := by
  have hB0 : Below w.heap.size w w := Below.refl _ _
  go_enter Tryd.func19, Tryd.ntmps19
  go_wp2_with fail
  refine (krefRight_no m _ h).mono ?_
  rintro e w1 ⟨rfl, hb1⟩
  have hs1 : Below w.heap.size w w1 := Below.trans (by repeat (first | exact Below.refl _ _ | refine Below.alloc ?_ (by simp <;> omega) _)) (hb1.mono (by simp <;> omega))
  have c_k_0 : w1.cell? ⟨w.heap.size, 0, none⟩ = some (.int .i64 f) := (hb1.cell (by simp <;> omega)).trans (by go_simp)
  have c_k_1 : w1.cell? ⟨w.heap.size, 1, none⟩ = some (.bool m) := (hb1.cell (by simp <;> omega)).trans (by go_simp)
  have z_k := World.block_lt_of_cell? _ _ c_k_0
  have hB1 := below_two hB0 hs1
  clear hB0 hs1 hb1
  go_wp2
  go_ret2
  exact ⟨rfl, hB1⟩

set_option maxRecDepth 100000 in
set_option maxHeartbeats 4000000 in
theorem refText_shMi (f : Int) (w : World) (p x x1 : Int) (l : UInt8) (h : Key.okF f = true) (HT : Hid (∀ w, Calls Tryd.prog 38 #[ky f true] w fun e w' => e = .returned (.int .i64 p) ∧ Below w.heap.size w w')) (p0 : -7 ≤ p) (p1 : p ≤ 10) (HX : Hid (Key.st p = x)) (HA : Hid (Key.al p = 1)) (x0 : 0 ≤ x) (hx1 : IntKind.i64.wrap (x + 1) = x1) (y0 : x ≤ x1) (y1 : x1 ≤ 7) (hex : (ByteArray.mk #[67, 68, 69, 70, 71, 65, 66]).extract x.toNat x1.toNat = ⟨#[l]⟩) :
    Calls Tryd.prog 19 #[ky f true] w fun e w' => e = .returned (.tuple #[.string ⟨#[l, 35, 32, 109, 105, 110, 111, 114]⟩, .int .i64 0]) ∧ Below w.heap.size w w' := by
  have a1 : ∀ w : World, (Op.stringOp .add ⟨#[l]⟩ ⟨#[35]⟩).run Tryd.prog w = .ok (.string ⟨#[l, 35]⟩) w := fun w => run_string_add_lists w [l] [35] (by simp) (by simp)
  have a2 : ∀ w : World, (Op.stringOp .add ⟨#[l, 35]⟩ ⟨#[32, 109, 105, 110, 111, 114]⟩).run Tryd.prog w = .ok (.string ⟨#[l, 35, 32, 109, 105, 110, 111, 114]⟩) w := fun w => run_string_add_lists w [l, 35] [32, 109, 105, 110, 111, 114] (by simp) (by simp)
  have hB0 : Below w.heap.size w w := Below.refl _ _
  go_enter Tryd.func19, Tryd.ntmps19
  go_wp2_with fail
  refine (krefRight_yes true _ h).mono ?_
  rintro e w1 ⟨rfl, hb1⟩
  have hs1 : Below w.heap.size w w1 := Below.trans (by repeat (first | exact Below.refl _ _ | refine Below.alloc ?_ (by simp <;> omega) _)) (hb1.mono (by simp <;> omega))
  have c_k_0 : w1.cell? ⟨w.heap.size, 0, none⟩ = some (.int .i64 f) := (hb1.cell (by simp <;> omega)).trans (by go_simp)
  have c_k_1 : w1.cell? ⟨w.heap.size, 1, none⟩ = some (.bool true) := (hb1.cell (by simp <;> omega)).trans (by go_simp)
  have z_k := World.block_lt_of_cell? _ _ c_k_0
  have hB1 := below_two hB0 hs1
  clear hB0 hs1 hb1
  go_wp2_with fail
  refine (HT.out _).mono ?_
  rintro e w2 ⟨rfl, hb2⟩
  have hs2 := hb2
  replace c_k_0 := cell_later hs2 c_k_0
  replace c_k_1 := cell_later hs2 c_k_1
  clear z_k
  have z_k := World.block_lt_of_cell? _ _ c_k_0
  have hB2 := below_two hB1 hs2
  clear hB1 hs2
  go_wp2_with fail
  refine (refStep_any p _ (by omega) (by omega)).mono ?_
  rintro e wx ⟨rfl, rfl⟩
  rw [HX.out]
  go_wp2_with fail
  refine (HT.out _).mono ?_
  rintro e w3 ⟨rfl, hb3⟩
  have hs3 := hb3
  replace c_k_0 := cell_later hs3 c_k_0
  replace c_k_1 := cell_later hs3 c_k_1
  clear z_k
  have z_k := World.block_lt_of_cell? _ _ c_k_0
  have hB3 := below_two hB2 hs3
  clear hB2 hs3
  go_wp2_with fail
  refine (refSign_any p _ (by omega) (by omega)).mono ?_
  rintro e wx ⟨rfl, rfl⟩
  rw [HA.out]
  go_wp2
  refine wp_loop_rounds 2 ?_
  rw [rounds_succ]
  go_wp2
  rw [rounds_succ]
  go_wp2
  refine wp_loop_rounds 1 ?_
  rw [rounds_succ]
  go_wp2
  go_ret2
  exact ⟨rfl, hB3⟩

set_option maxRecDepth 100000 in
set_option maxHeartbeats 4000000 in
theorem refText_naMi (f : Int) (w : World) (p x x1 : Int) (l : UInt8) (h : Key.okF f = true) (HT : Hid (∀ w, Calls Tryd.prog 38 #[ky f true] w fun e w' => e = .returned (.int .i64 p) ∧ Below w.heap.size w w')) (p0 : -7 ≤ p) (p1 : p ≤ 10) (HX : Hid (Key.st p = x)) (HA : Hid (Key.al p = 0)) (x0 : 0 ≤ x) (hx1 : IntKind.i64.wrap (x + 1) = x1) (y0 : x ≤ x1) (y1 : x1 ≤ 7) (hex : (ByteArray.mk #[67, 68, 69, 70, 71, 65, 66]).extract x.toNat x1.toNat = ⟨#[l]⟩) :
    Calls Tryd.prog 19 #[ky f true] w fun e w' => e = .returned (.tuple #[.string ⟨#[l, 32, 109, 105, 110, 111, 114]⟩, .int .i64 0]) ∧ Below w.heap.size w w' := by
  have a2 : ∀ w : World, (Op.stringOp .add ⟨#[l]⟩ ⟨#[32, 109, 105, 110, 111, 114]⟩).run Tryd.prog w = .ok (.string ⟨#[l, 32, 109, 105, 110, 111, 114]⟩) w := fun w => run_string_add_lists w [l] [32, 109, 105, 110, 111, 114] (by simp) (by simp)
  have hB0 : Below w.heap.size w w := Below.refl _ _
  go_enter Tryd.func19, Tryd.ntmps19
  go_wp2_with fail
  refine (krefRight_yes true _ h).mono ?_
  rintro e w1 ⟨rfl, hb1⟩
  have hs1 : Below w.heap.size w w1 := Below.trans (by repeat (first | exact Below.refl _ _ | refine Below.alloc ?_ (by simp <;> omega) _)) (hb1.mono (by simp <;> omega))
  have c_k_0 : w1.cell? ⟨w.heap.size, 0, none⟩ = some (.int .i64 f) := (hb1.cell (by simp <;> omega)).trans (by go_simp)
  have c_k_1 : w1.cell? ⟨w.heap.size, 1, none⟩ = some (.bool true) := (hb1.cell (by simp <;> omega)).trans (by go_simp)
  have z_k := World.block_lt_of_cell? _ _ c_k_0
  have hB1 := below_two hB0 hs1
  clear hB0 hs1 hb1
  go_wp2_with fail
  refine (HT.out _).mono ?_
  rintro e w2 ⟨rfl, hb2⟩
  have hs2 := hb2
  replace c_k_0 := cell_later hs2 c_k_0
  replace c_k_1 := cell_later hs2 c_k_1
  clear z_k
  have z_k := World.block_lt_of_cell? _ _ c_k_0
  have hB2 := below_two hB1 hs2
  clear hB1 hs2
  go_wp2_with fail
  refine (refStep_any p _ (by omega) (by omega)).mono ?_
  rintro e wx ⟨rfl, rfl⟩
  rw [HX.out]
  go_wp2_with fail
  refine (HT.out _).mono ?_
  rintro e w3 ⟨rfl, hb3⟩
  have hs3 := hb3
  replace c_k_0 := cell_later hs3 c_k_0
  replace c_k_1 := cell_later hs3 c_k_1
  clear z_k
  have z_k := World.block_lt_of_cell? _ _ c_k_0
  have hB3 := below_two hB2 hs3
  clear hB2 hs3
  go_wp2_with fail
  refine (refSign_any p _ (by omega) (by omega)).mono ?_
  rintro e wx ⟨rfl, rfl⟩
  rw [HA.out]
  go_wp2
  refine wp_loop_rounds 1 ?_
  rw [rounds_succ]
  go_wp2
  refine wp_loop_rounds 1 ?_
  rw [rounds_succ]
  go_wp2
  go_ret2
  exact ⟨rfl, hB3⟩

set_option maxRecDepth 100000 in
set_option maxHeartbeats 4000000 in
theorem refText_flMi (f : Int) (w : World) (p x x1 : Int) (l : UInt8) (h : Key.okF f = true) (HT : Hid (∀ w, Calls Tryd.prog 38 #[ky f true] w fun e w' => e = .returned (.int .i64 p) ∧ Below w.heap.size w w')) (p0 : -7 ≤ p) (p1 : p ≤ 10) (HX : Hid (Key.st p = x)) (HA : Hid (Key.al p = -1)) (x0 : 0 ≤ x) (hx1 : IntKind.i64.wrap (x + 1) = x1) (y0 : x ≤ x1) (y1 : x1 ≤ 7) (hex : (ByteArray.mk #[67, 68, 69, 70, 71, 65, 66]).extract x.toNat x1.toNat = ⟨#[l]⟩) :
    Calls Tryd.prog 19 #[ky f true] w fun e w' => e = .returned (.tuple #[.string ⟨#[l, 98, 32, 109, 105, 110, 111, 114]⟩, .int .i64 0]) ∧ Below w.heap.size w w' := by
  have a1 : ∀ w : World, (Op.stringOp .add ⟨#[l]⟩ ⟨#[98]⟩).run Tryd.prog w = .ok (.string ⟨#[l, 98]⟩) w := fun w => run_string_add_lists w [l] [98] (by simp) (by simp)
  have a2 : ∀ w : World, (Op.stringOp .add ⟨#[l, 98]⟩ ⟨#[32, 109, 105, 110, 111, 114]⟩).run Tryd.prog w = .ok (.string ⟨#[l, 98, 32, 109, 105, 110, 111, 114]⟩) w := fun w => run_string_add_lists w [l, 98] [32, 109, 105, 110, 111, 114] (by simp) (by simp)
  have hB0 : Below w.heap.size w w := Below.refl _ _
  go_enter Tryd.func19, Tryd.ntmps19
  go_wp2_with fail
  refine (krefRight_yes true _ h).mono ?_
  rintro e w1 ⟨rfl, hb1⟩
  have hs1 : Below w.heap.size w w1 := Below.trans (by repeat (first | exact Below.refl _ _ | refine Below.alloc ?_ (by simp <;> omega) _)) (hb1.mono (by simp <;> omega))
  have c_k_0 : w1.cell? ⟨w.heap.size, 0, none⟩ = some (.int .i64 f) := (hb1.cell (by simp <;> omega)).trans (by go_simp)
  have c_k_1 : w1.cell? ⟨w.heap.size, 1, none⟩ = some (.bool true) := (hb1.cell (by simp <;> omega)).trans (by go_simp)
  have z_k := World.block_lt_of_cell? _ _ c_k_0
  have hB1 := below_two hB0 hs1
  clear hB0 hs1 hb1
  go_wp2_with fail
  refine (HT.out _).mono ?_
  rintro e w2 ⟨rfl, hb2⟩
  have hs2 := hb2
  replace c_k_0 := cell_later hs2 c_k_0
  replace c_k_1 := cell_later hs2 c_k_1
  clear z_k
  have z_k := World.block_lt_of_cell? _ _ c_k_0
  have hB2 := below_two hB1 hs2
  clear hB1 hs2
  go_wp2_with fail
  refine (refStep_any p _ (by omega) (by omega)).mono ?_
  rintro e wx ⟨rfl, rfl⟩
  rw [HX.out]
  go_wp2_with fail
  refine (HT.out _).mono ?_
  rintro e w3 ⟨rfl, hb3⟩
  have hs3 := hb3
  replace c_k_0 := cell_later hs3 c_k_0
  replace c_k_1 := cell_later hs3 c_k_1
  clear z_k
  have z_k := World.block_lt_of_cell? _ _ c_k_0
  have hB3 := below_two hB2 hs3
  clear hB2 hs3
  go_wp2_with fail
  refine (refSign_any p _ (by omega) (by omega)).mono ?_
  rintro e wx ⟨rfl, rfl⟩
  rw [HA.out]
  go_wp2
  refine wp_loop_rounds 1 ?_
  rw [rounds_succ]
  go_wp2
  refine wp_loop_rounds 2 ?_
  rw [rounds_succ]
  go_wp2
  rw [rounds_succ]
  go_wp2
  go_ret2
  exact ⟨rfl, hB3⟩

set_option maxRecDepth 100000 in
set_option maxHeartbeats 4000000 in
theorem refText_shMa (f : Int) (w : World) (p x x1 : Int) (l : UInt8) (h : Key.okF f = true) (HT : Hid (∀ w, Calls Tryd.prog 38 #[ky f false] w fun e w' => e = .returned (.int .i64 p) ∧ Below w.heap.size w w')) (p0 : -7 ≤ p) (p1 : p ≤ 10) (HX : Hid (Key.st p = x)) (HA : Hid (Key.al p = 1)) (x0 : 0 ≤ x) (hx1 : IntKind.i64.wrap (x + 1) = x1) (y0 : x ≤ x1) (y1 : x1 ≤ 7) (hex : (ByteArray.mk #[67, 68, 69, 70, 71, 65, 66]).extract x.toNat x1.toNat = ⟨#[l]⟩) :
    Calls Tryd.prog 19 #[ky f false] w fun e w' => e = .returned (.tuple #[.string ⟨#[l, 35, 32, 109, 97, 106, 111, 114]⟩, .int .i64 0]) ∧ Below w.heap.size w w' := by
  have a1 : ∀ w : World, (Op.stringOp .add ⟨#[l]⟩ ⟨#[35]⟩).run Tryd.prog w = .ok (.string ⟨#[l, 35]⟩) w := fun w => run_string_add_lists w [l] [35] (by simp) (by simp)
  have a2 : ∀ w : World, (Op.stringOp .add ⟨#[l, 35]⟩ ⟨#[32, 109, 97, 106, 111, 114]⟩).run Tryd.prog w = .ok (.string ⟨#[l, 35, 32, 109, 97, 106, 111, 114]⟩) w := fun w => run_string_add_lists w [l, 35] [32, 109, 97, 106, 111, 114] (by simp) (by simp)
  have hB0 : Below w.heap.size w w := Below.refl _ _
  go_enter Tryd.func19, Tryd.ntmps19
  go_wp2_with fail
  refine (krefRight_yes false _ h).mono ?_
  rintro e w1 ⟨rfl, hb1⟩
  have hs1 : Below w.heap.size w w1 := Below.trans (by repeat (first | exact Below.refl _ _ | refine Below.alloc ?_ (by simp <;> omega) _)) (hb1.mono (by simp <;> omega))
  have c_k_0 : w1.cell? ⟨w.heap.size, 0, none⟩ = some (.int .i64 f) := (hb1.cell (by simp <;> omega)).trans (by go_simp)
  have c_k_1 : w1.cell? ⟨w.heap.size, 1, none⟩ = some (.bool false) := (hb1.cell (by simp <;> omega)).trans (by go_simp)
  have z_k := World.block_lt_of_cell? _ _ c_k_0
  have hB1 := below_two hB0 hs1
  clear hB0 hs1 hb1
  go_wp2_with fail
  refine (HT.out _).mono ?_
  rintro e w2 ⟨rfl, hb2⟩
  have hs2 := hb2
  replace c_k_0 := cell_later hs2 c_k_0
  replace c_k_1 := cell_later hs2 c_k_1
  clear z_k
  have z_k := World.block_lt_of_cell? _ _ c_k_0
  have hB2 := below_two hB1 hs2
  clear hB1 hs2
  go_wp2_with fail
  refine (refStep_any p _ (by omega) (by omega)).mono ?_
  rintro e wx ⟨rfl, rfl⟩
  rw [HX.out]
  go_wp2_with fail
  refine (HT.out _).mono ?_
  rintro e w3 ⟨rfl, hb3⟩
  have hs3 := hb3
  replace c_k_0 := cell_later hs3 c_k_0
  replace c_k_1 := cell_later hs3 c_k_1
  clear z_k
  have z_k := World.block_lt_of_cell? _ _ c_k_0
  have hB3 := below_two hB2 hs3
  clear hB2 hs3
  go_wp2_with fail
  refine (refSign_any p _ (by omega) (by omega)).mono ?_
  rintro e wx ⟨rfl, rfl⟩
  rw [HA.out]
  go_wp2
  refine wp_loop_rounds 2 ?_
  rw [rounds_succ]
  go_wp2
  rw [rounds_succ]
  go_wp2
  refine wp_loop_rounds 1 ?_
  rw [rounds_succ]
  go_wp2
  go_ret2
  exact ⟨rfl, hB3⟩

set_option maxRecDepth 100000 in
set_option maxHeartbeats 4000000 in
theorem refText_naMa (f : Int) (w : World) (p x x1 : Int) (l : UInt8) (h : Key.okF f = true) (HT : Hid (∀ w, Calls Tryd.prog 38 #[ky f false] w fun e w' => e = .returned (.int .i64 p) ∧ Below w.heap.size w w')) (p0 : -7 ≤ p) (p1 : p ≤ 10) (HX : Hid (Key.st p = x)) (HA : Hid (Key.al p = 0)) (x0 : 0 ≤ x) (hx1 : IntKind.i64.wrap (x + 1) = x1) (y0 : x ≤ x1) (y1 : x1 ≤ 7) (hex : (ByteArray.mk #[67, 68, 69, 70, 71, 65, 66]).extract x.toNat x1.toNat = ⟨#[l]⟩) :
    Calls Tryd.prog 19 #[ky f false] w fun e w' => e = .returned (.tuple #[.string ⟨#[l, 32, 109, 97, 106, 111, 114]⟩, .int .i64 0]) ∧ Below w.heap.size w w' := by
  have a2 : ∀ w : World, (Op.stringOp .add ⟨#[l]⟩ ⟨#[32, 109, 97, 106, 111, 114]⟩).run Tryd.prog w = .ok (.string ⟨#[l, 32, 109, 97, 106, 111, 114]⟩) w := fun w => run_string_add_lists w [l] [32, 109, 97, 106, 111, 114] (by simp) (by simp)
  have hB0 : Below w.heap.size w w := Below.refl _ _
  go_enter Tryd.func19, Tryd.ntmps19
  go_wp2_with fail
  refine (krefRight_yes false _ h).mono ?_
  rintro e w1 ⟨rfl, hb1⟩
  have hs1 : Below w.heap.size w w1 := Below.trans (by repeat (first | exact Below.refl _ _ | refine Below.alloc ?_ (by simp <;> omega) _)) (hb1.mono (by simp <;> omega))
  have c_k_0 : w1.cell? ⟨w.heap.size, 0, none⟩ = some (.int .i64 f) := (hb1.cell (by simp <;> omega)).trans (by go_simp)
  have c_k_1 : w1.cell? ⟨w.heap.size, 1, none⟩ = some (.bool false) := (hb1.cell (by simp <;> omega)).trans (by go_simp)
  have z_k := World.block_lt_of_cell? _ _ c_k_0
  have hB1 := below_two hB0 hs1
  clear hB0 hs1 hb1
  go_wp2_with fail
  refine (HT.out _).mono ?_
  rintro e w2 ⟨rfl, hb2⟩
  have hs2 := hb2
  replace c_k_0 := cell_later hs2 c_k_0
  replace c_k_1 := cell_later hs2 c_k_1
  clear z_k
  have z_k := World.block_lt_of_cell? _ _ c_k_0
  have hB2 := below_two hB1 hs2
  clear hB1 hs2
  go_wp2_with fail
  refine (refStep_any p _ (by omega) (by omega)).mono ?_
  rintro e wx ⟨rfl, rfl⟩
  rw [HX.out]
  go_wp2_with fail
  refine (HT.out _).mono ?_
  rintro e w3 ⟨rfl, hb3⟩
  have hs3 := hb3
  replace c_k_0 := cell_later hs3 c_k_0
  replace c_k_1 := cell_later hs3 c_k_1
  clear z_k
  have z_k := World.block_lt_of_cell? _ _ c_k_0
  have hB3 := below_two hB2 hs3
  clear hB2 hs3
  go_wp2_with fail
  refine (refSign_any p _ (by omega) (by omega)).mono ?_
  rintro e wx ⟨rfl, rfl⟩
  rw [HA.out]
  go_wp2
  refine wp_loop_rounds 1 ?_
  rw [rounds_succ]
  go_wp2
  refine wp_loop_rounds 1 ?_
  rw [rounds_succ]
  go_wp2
  go_ret2
  exact ⟨rfl, hB3⟩

set_option maxRecDepth 100000 in
set_option maxHeartbeats 4000000 in
theorem refText_flMa (f : Int) (w : World) (p x x1 : Int) (l : UInt8) (h : Key.okF f = true) (HT : Hid (∀ w, Calls Tryd.prog 38 #[ky f false] w fun e w' => e = .returned (.int .i64 p) ∧ Below w.heap.size w w')) (p0 : -7 ≤ p) (p1 : p ≤ 10) (HX : Hid (Key.st p = x)) (HA : Hid (Key.al p = -1)) (x0 : 0 ≤ x) (hx1 : IntKind.i64.wrap (x + 1) = x1) (y0 : x ≤ x1) (y1 : x1 ≤ 7) (hex : (ByteArray.mk #[67, 68, 69, 70, 71, 65, 66]).extract x.toNat x1.toNat = ⟨#[l]⟩) :
    Calls Tryd.prog 19 #[ky f false] w fun e w' => e = .returned (.tuple #[.string ⟨#[l, 98, 32, 109, 97, 106, 111, 114]⟩, .int .i64 0]) ∧ Below w.heap.size w w' := by
  have a1 : ∀ w : World, (Op.stringOp .add ⟨#[l]⟩ ⟨#[98]⟩).run Tryd.prog w = .ok (.string ⟨#[l, 98]⟩) w := fun w => run_string_add_lists w [l] [98] (by simp) (by simp)
  have a2 : ∀ w : World, (Op.stringOp .add ⟨#[l, 98]⟩ ⟨#[32, 109, 97, 106, 111, 114]⟩).run Tryd.prog w = .ok (.string ⟨#[l, 98, 32, 109, 97, 106, 111, 114]⟩) w := fun w => run_string_add_lists w [l, 98] [32, 109, 97, 106, 111, 114] (by simp) (by simp)
  have hB0 : Below w.heap.size w w := Below.refl _ _
  go_enter Tryd.func19, Tryd.ntmps19
  go_wp2_with fail
  refine (krefRight_yes false _ h).mono ?_
  rintro e w1 ⟨rfl, hb1⟩
  have hs1 : Below w.heap.size w w1 := Below.trans (by repeat (first | exact Below.refl _ _ | refine Below.alloc ?_ (by simp <;> omega) _)) (hb1.mono (by simp <;> omega))
  have c_k_0 : w1.cell? ⟨w.heap.size, 0, none⟩ = some (.int .i64 f) := (hb1.cell (by simp <;> omega)).trans (by go_simp)
  have c_k_1 : w1.cell? ⟨w.heap.size, 1, none⟩ = some (.bool false) := (hb1.cell (by simp <;> omega)).trans (by go_simp)
  have z_k := World.block_lt_of_cell? _ _ c_k_0
  have hB1 := below_two hB0 hs1
  clear hB0 hs1 hb1
  go_wp2_with fail
  refine (HT.out _).mono ?_
  rintro e w2 ⟨rfl, hb2⟩
  have hs2 := hb2
  replace c_k_0 := cell_later hs2 c_k_0
  replace c_k_1 := cell_later hs2 c_k_1
  clear z_k
  have z_k := World.block_lt_of_cell? _ _ c_k_0
  have hB2 := below_two hB1 hs2
  clear hB1 hs2
  go_wp2_with fail
  refine (refStep_any p _ (by omega) (by omega)).mono ?_
  rintro e wx ⟨rfl, rfl⟩
  rw [HX.out]
  go_wp2_with fail
  refine (HT.out _).mono ?_
  rintro e w3 ⟨rfl, hb3⟩
  have hs3 := hb3
  replace c_k_0 := cell_later hs3 c_k_0
  replace c_k_1 := cell_later hs3 c_k_1
  clear z_k
  have z_k := World.block_lt_of_cell? _ _ c_k_0
  have hB3 := below_two hB2 hs3
  clear hB2 hs3
  go_wp2_with fail
  refine (refSign_any p _ (by omega) (by omega)).mono ?_
  rintro e wx ⟨rfl, rfl⟩
  rw [HA.out]
  go_wp2
  refine wp_loop_rounds 1 ?_
  rw [rounds_succ]
  go_wp2
  refine wp_loop_rounds 2 ?_
  rw [rounds_succ]
  go_wp2
  rw [rounds_succ]
  go_wp2
  go_ret2
  exact ⟨rfl, hB3⟩

theorem refText_any (f : Int) (m : Bool) (w : World) :
    Calls Tryd.prog 19 #[ky f m] w fun e w' => e = .returned (.tuple #[.string ⟨(Key.txE f m).toArray⟩, .int .i64 (Key.eK f)]) ∧ Below w.heap.size w w' := by
  unfold Key.txE Key.eK
  cases hf : Key.okF f
  · exact refText_no f m w hf
  · obtain ⟨h0, h7⟩ := (Key.okF_iff f).1 hf
    obtain ⟨p0, p1⟩ := Key.tp_bounds (m := m) h0 h7
    have hT := Lib.hid (fun w => refTonic_any f m w h0 h7)
    obtain ⟨x0, x6⟩ := Key.st_bounds (Key.tp f m)
    obtain ⟨l, hl, hex⟩ := letterK_at x0 x6
    have ha := Key.al_tonic (p := Key.tp f m) (by omega) (by omega)
    obtain ha | ha | ha : Key.al (Key.tp f m) = 1 ∨ Key.al (Key.tp f m) = 0 ∨ Key.al (Key.tp f m) = -1 := by omega
    all_goals
      have ht : Key.tx f m = [l] ++ Key.shB (Key.al (Key.tp f m)) ++ Key.flB (Key.al (Key.tp f m)) ++ Key.moB m := by unfold Key.tx; rw [hl]
      rw [if_pos rfl, if_pos rfl, ht, ha]
      cases m
    · exact refText_shMa f w _ _ _ l hf hT p0 p1 (Lib.hid rfl) (Lib.hid ha) x0 (IntWalk.i64_in _ (by omega)) (by omega) (by omega) hex
    · exact refText_shMi f w _ _ _ l hf hT p0 p1 (Lib.hid rfl) (Lib.hid ha) x0 (IntWalk.i64_in _ (by omega)) (by omega) (by omega) hex
    · exact refText_naMa f w _ _ _ l hf hT p0 p1 (Lib.hid rfl) (Lib.hid ha) x0 (IntWalk.i64_in _ (by omega)) (by omega) (by omega) hex
    · exact refText_naMi f w _ _ _ l hf hT p0 p1 (Lib.hid rfl) (Lib.hid ha) x0 (IntWalk.i64_in _ (by omega)) (by omega) (by omega) hex
    · exact refText_flMa f w _ _ _ l hf hT p0 p1 (Lib.hid rfl) (Lib.hid ha) x0 (IntWalk.i64_in _ (by omega)) (by omega) (by omega) hex
    · exact refText_flMi f w _ _ _ l hf hT p0 p1 (Lib.hid rfl) (Lib.hid ha) x0 (IntWalk.i64_in _ (by omega)) (by omega) (by omega) hex
end Go.Proofs.YtahcbgngdpjhkaaDoor
