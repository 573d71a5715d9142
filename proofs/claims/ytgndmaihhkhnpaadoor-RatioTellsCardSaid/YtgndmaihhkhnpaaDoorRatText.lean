/-
  RatioText holds: the law's walk.
-/
import Derived.Test.YtgndmaihhkhnpaaDoorRatTextFacts
namespace Go.Proofs.YtgndmaihhkhnpaaDoor
open Go.RowKit

theorem conv_byte (c : UInt8) (W : World) (k : Nat) (h : W.cell? ⟨k, 0, none⟩ = some (.int .u8 (c.toNat : Int))) : (convert 42 9 (.slice (some ⟨k, 0, none⟩) 1 1)).run Tryd.prog W = .ok (.string ⟨#[c]⟩) W :=
  run_convert_bytes_back W 42 9 5 ⟨k, 0, none⟩ 1 [c] Tryd.underlying42 Tryd.underlying5 Tryd.underlying9 (fun j hj => by
    match j, hj with
    | 0, _ => exact h)

set_option maxRecDepth 100000 in
set_option maxHeartbeats 4000000 in
theorem text_w1 (a b xn xd zn zd vn vd : Int) (s : ByteArray) (c : UInt8) (T : List UInt8) (w : World) (hR : Ready w) (HX : Hid (∀ w, Calls Tryd.prog 17 #[rt a b] w fun e w' => e = .returned (rt xn xd) ∧ Below w.heap.size w w')) (HT : Hid (txtV (Rat.right xn xd) xn xd = T ∧ floorE (Rat.right xn xd) = 0)) (hT : T.length ≤ 100) (HR1 : Hid (rd T = some (xn, xd))) (F : ByteArray) (hF : F.size ≤ 30) (HF : Hid (s.extract 0 (min (s.size : Int) 30).toNat = F)) (HR2 : Hid (rd F.data.toList = some (zn, zd))) (hrz : Rat.right zn zd = true) (HT2 : Hid (txtV (Rat.right zn zd) zn zd = F.data.toList ∧ floorE (Rat.right zn zd) = 0)) (HR3 : Hid (rd (48 :: T) = none)) (HR4 : Hid (rd (T ++ [c]) = some (vn, vd))) (c1 : 48 ≤ c.toNat) (c2 : c.toNat ≤ 57) (hv : eqR vn vd xn xd = false) : Calls Tryd.prog 9 #[rt a b, .string s, .int .u8 (c.toNat : Int)] w fun e w' => e = .returned (.bool true) ∧ Below w.heap.size w w' := by
  have hgR := guardR
  have heq := eql_rt
  have hne := neq_rt
  have hself := eqR_self
  have a1 : ∀ w : World, (Op.stringOp .add ⟨#[48]⟩ ⟨T.toArray⟩).run Tryd.prog w = .ok (.string ⟨(48 :: T).toArray⟩) w := fun w => run_string_add_lists w [48] T (by decide) (by omega)
  have a2 : ∀ w : World, (Op.stringOp .add ⟨T.toArray⟩ ⟨#[c]⟩).run Tryd.prog w = .ok (.string ⟨(T ++ [c]).toArray⟩) w := fun w => run_string_add_lists w T [c] (by omega) (by simp)
  have a3 := conv_byte c
  have hB0 : Below w.heap.size w w := Below.refl _ _
  go_enter Tryd.func9, Tryd.ntmps9
  go_wp2_with fail
  have hR' := hR.below ((Below.refl _ _).alloc (Nat.le_refl _) (.cells #[.int .i64 a, .int .i64 b] 23))
  refine (examples_any _ hR').mono ?_
  rintro e w1 ⟨rfl, hb1⟩
  have hs1 : Below w.heap.size w w1 := Below.trans (by repeat (first | exact Below.refl _ _ | refine Below.alloc ?_ (by simp <;> omega) _)) (hb1.mono (by simp <;> omega))
  have c_p_0 : w1.cell? ⟨w.heap.size, 0, none⟩ = some (.int .i64 (a)) := (hb1.cell (by simp <;> omega)).trans (by go_simp)
  have c_p_1 : w1.cell? ⟨w.heap.size, 1, none⟩ = some (.int .i64 (b)) := (hb1.cell (by simp <;> omega)).trans (by go_simp)
  have z_p := World.block_lt_of_cell? _ _ c_p_0
  have hB1 := below_two hB0 hs1
  replace hR := hR.below hs1
  clear hB0 hs1 hb1
  clear hR'
  go_wp2_with fail
  refine (HX.out _).mono ?_
  rintro e w2 ⟨rfl, hb2⟩
  have hs2 := hb2
  replace c_p_0 := cell_later hs2 c_p_0
  replace c_p_1 := cell_later hs2 c_p_1
  clear z_p
  have z_p := World.block_lt_of_cell? _ _ c_p_0
  have hB2 := below_two hB1 hs2
  replace hR := hR.below hs2
  clear hB1 hs2
  go_wp2_with fail
  have hR' := hR.below ((Below.refl _ _).alloc (Nat.le_refl _) (.cells #[.int .i64 xn, .int .i64 xd] 23))
  refine (text_any _ _ _ hR').mono ?_
  rintro e w3 ⟨rfl, hb3⟩
  have hs3 : Below w2.heap.size w2 w3 := Below.trans (by repeat (first | exact Below.refl _ _ | refine Below.alloc ?_ (by simp <;> omega) _)) (hb3.mono (by simp <;> omega))
  clear c_p_0
  clear c_p_1
  have c_x_0 : w3.cell? ⟨w2.heap.size, 0, none⟩ = some (.int .i64 (xn)) := (hb3.cell (by simp <;> omega)).trans (by go_simp)
  have c_x_1 : w3.cell? ⟨w2.heap.size, 1, none⟩ = some (.int .i64 (xd)) := (hb3.cell (by simp <;> omega)).trans (by go_simp)
  have z_x := World.block_lt_of_cell? _ _ c_x_0
  clear z_p
  have hB3 := below_two hB2 hs3
  replace hR := hR.below hs3
  clear hB2 hs3 hb3
  clear hR'
  rw [HT.out.1, HT.out.2]
  go_wp2_with fail
  refine (read_any _ _ hR (by rw [sz]; omega)).mono ?_
  rintro e w4 ⟨rfl, hb4⟩
  have hs4 := hb4
  replace c_x_0 := cell_later hs4 c_x_0
  replace c_x_1 := cell_later hs4 c_x_1
  clear z_x
  have z_x := World.block_lt_of_cell? _ _ c_x_0
  have hB4 := below_two hB3 hs4
  replace hR := hR.below hs4
  clear hB3 hs4
  rw [show (ByteArray.mk T.toArray).data.toList = T from rfl, HR1.out]
  simp only [rdV]
  go_wp2_with fail
  rw [HF.out]
  have hR' := hR.below ((Below.refl _ _).alloc (Nat.le_refl _) (.cells #[.int .i64 xn, .int .i64 xd] 23))
  refine (read_any _ _ hR' (by omega)).mono ?_
  rintro e w5 ⟨rfl, hb5⟩
  have hs5 : Below w4.heap.size w4 w5 := Below.trans (by repeat (first | exact Below.refl _ _ | refine Below.alloc ?_ (by simp <;> omega) _)) (hb5.mono (by simp <;> omega))
  replace c_x_0 := cell_later hs5 c_x_0
  replace c_x_1 := cell_later hs5 c_x_1
  have c_y_0 : w5.cell? ⟨w4.heap.size, 0, none⟩ = some (.int .i64 (xn)) := (hb5.cell (by simp <;> omega)).trans (by go_simp)
  have c_y_1 : w5.cell? ⟨w4.heap.size, 1, none⟩ = some (.int .i64 (xd)) := (hb5.cell (by simp <;> omega)).trans (by go_simp)
  clear z_x
  have z_x := World.block_lt_of_cell? _ _ c_x_0
  have z_y := World.block_lt_of_cell? _ _ c_y_0
  have hB5 := below_two hB4 hs5
  replace hR := hR.below hs5
  clear hB4 hs5 hb5
  clear hR'
  rw [HR2.out]
  simp only [rdV]
  go_wp2_with fail
  have hR' := hR.below ((Below.refl _ _).alloc (Nat.le_refl _) (.cells #[.int .i64 zn, .int .i64 zd] 23))
  refine (text_any _ _ _ hR').mono ?_
  rintro e w6 ⟨rfl, hb6⟩
  have hs6 : Below w5.heap.size w5 w6 := Below.trans (by repeat (first | exact Below.refl _ _ | refine Below.alloc ?_ (by simp <;> omega) _)) (hb6.mono (by simp <;> omega))
  replace c_x_0 := cell_later hs6 c_x_0
  replace c_x_1 := cell_later hs6 c_x_1
  replace c_y_0 := cell_later hs6 c_y_0
  replace c_y_1 := cell_later hs6 c_y_1
  have c_z_0 : w6.cell? ⟨w5.heap.size, 0, none⟩ = some (.int .i64 (zn)) := (hb6.cell (by simp <;> omega)).trans (by go_simp)
  have c_z_1 : w6.cell? ⟨w5.heap.size, 1, none⟩ = some (.int .i64 (zd)) := (hb6.cell (by simp <;> omega)).trans (by go_simp)
  clear z_x
  have z_x := World.block_lt_of_cell? _ _ c_x_0
  clear z_y
  have z_y := World.block_lt_of_cell? _ _ c_y_0
  have z_z := World.block_lt_of_cell? _ _ c_z_0
  have hB6 := below_two hB5 hs6
  replace hR := hR.below hs6
  clear hB5 hs6 hb6
  clear hR'
  rw [HT2.out.1, HT2.out.2]
  go_wp2_with fail
  refine (read_any _ _ hR (by rw [sz]; simp; omega)).mono ?_
  rintro e w7 ⟨rfl, hb7⟩
  have hs7 := hb7
  replace c_x_0 := cell_later hs7 c_x_0
  replace c_x_1 := cell_later hs7 c_x_1
  replace c_y_0 := cell_later hs7 c_y_0
  replace c_y_1 := cell_later hs7 c_y_1
  replace c_z_0 := cell_later hs7 c_z_0
  replace c_z_1 := cell_later hs7 c_z_1
  clear z_x
  have z_x := World.block_lt_of_cell? _ _ c_x_0
  clear z_y
  have z_y := World.block_lt_of_cell? _ _ c_y_0
  clear z_z
  have z_z := World.block_lt_of_cell? _ _ c_z_0
  have hB7 := below_two hB6 hs7
  replace hR := hR.below hs7
  clear hB6 hs7
  rw [show (ByteArray.mk (48 :: T).toArray).data.toList = 48 :: T from rfl, HR3.out]
  simp only [rdV]
  go_wp2_with fail
  have hR' := hR.below (((Below.refl _ _).alloc (Nat.le_refl _) (.cells #[.int .i64 0, .int .i64 0] 23)).alloc (by simp) (.cells #[.int .u8 (c.toNat : Int)] 5))
  refine (read_any _ _ hR' (by rw [sz]; simp; omega)).mono ?_
  rintro e w8 ⟨rfl, hb8⟩
  have hs8 : Below w7.heap.size w7 w8 := Below.trans (by repeat (first | exact Below.refl _ _ | refine Below.alloc ?_ (by simp <;> omega) _)) (hb8.mono (by simp <;> omega))
  replace c_x_0 := cell_later hs8 c_x_0
  replace c_x_1 := cell_later hs8 c_x_1
  replace c_y_0 := cell_later hs8 c_y_0
  replace c_y_1 := cell_later hs8 c_y_1
  replace c_z_0 := cell_later hs8 c_z_0
  replace c_z_1 := cell_later hs8 c_z_1
  clear z_x
  have z_x := World.block_lt_of_cell? _ _ c_x_0
  clear z_y
  have z_y := World.block_lt_of_cell? _ _ c_y_0
  clear z_z
  have z_z := World.block_lt_of_cell? _ _ c_z_0
  have hB8 := below_two hB7 hs8
  replace hR := hR.below hs8
  clear hB7 hs8 hb8
  clear hR'
  rw [show (ByteArray.mk (T ++ [c]).toArray).data.toList = T ++ [c] from rfl, HR4.out]
  simp only [rdV]
  go_wp2_with fail
  refine (ratio_right _ _ _).mono ?_
  rintro e w9 ⟨rfl, hb9⟩
  have hs9 : Below w8.heap.size w8 w9 := Below.trans (by repeat (first | exact Below.refl _ _ | refine Below.alloc ?_ (by simp <;> omega) _)) (hb9.mono (by simp <;> omega))
  clear c_y_0
  clear c_y_1
  clear c_z_0
  clear c_z_1
  replace c_x_0 := cell_later hs9 c_x_0
  replace c_x_1 := cell_later hs9 c_x_1
  have c_v_0 : w9.cell? ⟨w8.heap.size, 0, none⟩ = some (.int .i64 (vn)) := (hb9.cell (by simp <;> omega)).trans (by go_simp)
  have c_v_1 : w9.cell? ⟨w8.heap.size, 1, none⟩ = some (.int .i64 (vd)) := (hb9.cell (by simp <;> omega)).trans (by go_simp)
  have z_v := World.block_lt_of_cell? _ _ c_v_0
  clear z_x
  have z_x := World.block_lt_of_cell? _ _ c_x_0
  clear z_y
  clear z_z
  have hB9 := below_two hB8 hs9
  replace hR := hR.below hs9
  clear hB8 hs9 hb9
  rw [hrz]
  go_wp2
  go_ret
  exact ⟨rfl, hB9⟩

set_option maxRecDepth 100000 in
set_option maxHeartbeats 4000000 in
theorem text_w2 (a b xn xd zn zd : Int) (s : ByteArray) (c : UInt8) (T : List UInt8) (w : World) (hR : Ready w) (HX : Hid (∀ w, Calls Tryd.prog 17 #[rt a b] w fun e w' => e = .returned (rt xn xd) ∧ Below w.heap.size w w')) (HT : Hid (txtV (Rat.right xn xd) xn xd = T ∧ floorE (Rat.right xn xd) = 0)) (hT : T.length ≤ 100) (HR1 : Hid (rd T = some (xn, xd))) (F : ByteArray) (hF : F.size ≤ 30) (HF : Hid (s.extract 0 (min (s.size : Int) 30).toNat = F)) (HR2 : Hid (rd F.data.toList = some (zn, zd))) (hrz : Rat.right zn zd = true) (HT2 : Hid (txtV (Rat.right zn zd) zn zd = F.data.toList ∧ floorE (Rat.right zn zd) = 0)) (HR3 : Hid (rd (48 :: T) = none)) (HR4 : Hid (rd (T ++ [c]) = none)) : Calls Tryd.prog 9 #[rt a b, .string s, .int .u8 (c.toNat : Int)] w fun e w' => e = .returned (.bool true) ∧ Below w.heap.size w w' := by
  have hgR := guardR
  have heq := eql_rt
  have hne := neq_rt
  have hself := eqR_self
  have a1 : ∀ w : World, (Op.stringOp .add ⟨#[48]⟩ ⟨T.toArray⟩).run Tryd.prog w = .ok (.string ⟨(48 :: T).toArray⟩) w := fun w => run_string_add_lists w [48] T (by decide) (by omega)
  have a2 : ∀ w : World, (Op.stringOp .add ⟨T.toArray⟩ ⟨#[c]⟩).run Tryd.prog w = .ok (.string ⟨(T ++ [c]).toArray⟩) w := fun w => run_string_add_lists w T [c] (by omega) (by simp)
  have a3 := conv_byte c
  have hB0 : Below w.heap.size w w := Below.refl _ _
  go_enter Tryd.func9, Tryd.ntmps9
  go_wp2_with fail
  have hR' := hR.below ((Below.refl _ _).alloc (Nat.le_refl _) (.cells #[.int .i64 a, .int .i64 b] 23))
  refine (examples_any _ hR').mono ?_
  rintro e w1 ⟨rfl, hb1⟩
  have hs1 : Below w.heap.size w w1 := Below.trans (by repeat (first | exact Below.refl _ _ | refine Below.alloc ?_ (by simp <;> omega) _)) (hb1.mono (by simp <;> omega))
  have c_p_0 : w1.cell? ⟨w.heap.size, 0, none⟩ = some (.int .i64 (a)) := (hb1.cell (by simp <;> omega)).trans (by go_simp)
  have c_p_1 : w1.cell? ⟨w.heap.size, 1, none⟩ = some (.int .i64 (b)) := (hb1.cell (by simp <;> omega)).trans (by go_simp)
  have z_p := World.block_lt_of_cell? _ _ c_p_0
  have hB1 := below_two hB0 hs1
  replace hR := hR.below hs1
  clear hB0 hs1 hb1
  clear hR'
  go_wp2_with fail
  refine (HX.out _).mono ?_
  rintro e w2 ⟨rfl, hb2⟩
  have hs2 := hb2
  replace c_p_0 := cell_later hs2 c_p_0
  replace c_p_1 := cell_later hs2 c_p_1
  clear z_p
  have z_p := World.block_lt_of_cell? _ _ c_p_0
  have hB2 := below_two hB1 hs2
  replace hR := hR.below hs2
  clear hB1 hs2
  go_wp2_with fail
  have hR' := hR.below ((Below.refl _ _).alloc (Nat.le_refl _) (.cells #[.int .i64 xn, .int .i64 xd] 23))
  refine (text_any _ _ _ hR').mono ?_
  rintro e w3 ⟨rfl, hb3⟩
  have hs3 : Below w2.heap.size w2 w3 := Below.trans (by repeat (first | exact Below.refl _ _ | refine Below.alloc ?_ (by simp <;> omega) _)) (hb3.mono (by simp <;> omega))
  clear c_p_0
  clear c_p_1
  have c_x_0 : w3.cell? ⟨w2.heap.size, 0, none⟩ = some (.int .i64 (xn)) := (hb3.cell (by simp <;> omega)).trans (by go_simp)
  have c_x_1 : w3.cell? ⟨w2.heap.size, 1, none⟩ = some (.int .i64 (xd)) := (hb3.cell (by simp <;> omega)).trans (by go_simp)
  have z_x := World.block_lt_of_cell? _ _ c_x_0
  clear z_p
  have hB3 := below_two hB2 hs3
  replace hR := hR.below hs3
  clear hB2 hs3 hb3
  clear hR'
  rw [HT.out.1, HT.out.2]
  go_wp2_with fail
  refine (read_any _ _ hR (by rw [sz]; omega)).mono ?_
  rintro e w4 ⟨rfl, hb4⟩
  have hs4 := hb4
  replace c_x_0 := cell_later hs4 c_x_0
  replace c_x_1 := cell_later hs4 c_x_1
  clear z_x
  have z_x := World.block_lt_of_cell? _ _ c_x_0
  have hB4 := below_two hB3 hs4
  replace hR := hR.below hs4
  clear hB3 hs4
  rw [show (ByteArray.mk T.toArray).data.toList = T from rfl, HR1.out]
  simp only [rdV]
  go_wp2_with fail
  rw [HF.out]
  have hR' := hR.below ((Below.refl _ _).alloc (Nat.le_refl _) (.cells #[.int .i64 xn, .int .i64 xd] 23))
  refine (read_any _ _ hR' (by omega)).mono ?_
  rintro e w5 ⟨rfl, hb5⟩
  have hs5 : Below w4.heap.size w4 w5 := Below.trans (by repeat (first | exact Below.refl _ _ | refine Below.alloc ?_ (by simp <;> omega) _)) (hb5.mono (by simp <;> omega))
  replace c_x_0 := cell_later hs5 c_x_0
  replace c_x_1 := cell_later hs5 c_x_1
  have c_y_0 : w5.cell? ⟨w4.heap.size, 0, none⟩ = some (.int .i64 (xn)) := (hb5.cell (by simp <;> omega)).trans (by go_simp)
  have c_y_1 : w5.cell? ⟨w4.heap.size, 1, none⟩ = some (.int .i64 (xd)) := (hb5.cell (by simp <;> omega)).trans (by go_simp)
  clear z_x
  have z_x := World.block_lt_of_cell? _ _ c_x_0
  have z_y := World.block_lt_of_cell? _ _ c_y_0
  have hB5 := below_two hB4 hs5
  replace hR := hR.below hs5
  clear hB4 hs5 hb5
  clear hR'
  rw [HR2.out]
  simp only [rdV]
  go_wp2_with fail
  have hR' := hR.below ((Below.refl _ _).alloc (Nat.le_refl _) (.cells #[.int .i64 zn, .int .i64 zd] 23))
  refine (text_any _ _ _ hR').mono ?_
  rintro e w6 ⟨rfl, hb6⟩
  have hs6 : Below w5.heap.size w5 w6 := Below.trans (by repeat (first | exact Below.refl _ _ | refine Below.alloc ?_ (by simp <;> omega) _)) (hb6.mono (by simp <;> omega))
  replace c_x_0 := cell_later hs6 c_x_0
  replace c_x_1 := cell_later hs6 c_x_1
  replace c_y_0 := cell_later hs6 c_y_0
  replace c_y_1 := cell_later hs6 c_y_1
  have c_z_0 : w6.cell? ⟨w5.heap.size, 0, none⟩ = some (.int .i64 (zn)) := (hb6.cell (by simp <;> omega)).trans (by go_simp)
  have c_z_1 : w6.cell? ⟨w5.heap.size, 1, none⟩ = some (.int .i64 (zd)) := (hb6.cell (by simp <;> omega)).trans (by go_simp)
  clear z_x
  have z_x := World.block_lt_of_cell? _ _ c_x_0
  clear z_y
  have z_y := World.block_lt_of_cell? _ _ c_y_0
  have z_z := World.block_lt_of_cell? _ _ c_z_0
  have hB6 := below_two hB5 hs6
  replace hR := hR.below hs6
  clear hB5 hs6 hb6
  clear hR'
  rw [HT2.out.1, HT2.out.2]
  go_wp2_with fail
  refine (read_any _ _ hR (by rw [sz]; simp; omega)).mono ?_
  rintro e w7 ⟨rfl, hb7⟩
  have hs7 := hb7
  replace c_x_0 := cell_later hs7 c_x_0
  replace c_x_1 := cell_later hs7 c_x_1
  replace c_y_0 := cell_later hs7 c_y_0
  replace c_y_1 := cell_later hs7 c_y_1
  replace c_z_0 := cell_later hs7 c_z_0
  replace c_z_1 := cell_later hs7 c_z_1
  clear z_x
  have z_x := World.block_lt_of_cell? _ _ c_x_0
  clear z_y
  have z_y := World.block_lt_of_cell? _ _ c_y_0
  clear z_z
  have z_z := World.block_lt_of_cell? _ _ c_z_0
  have hB7 := below_two hB6 hs7
  replace hR := hR.below hs7
  clear hB6 hs7
  rw [show (ByteArray.mk (48 :: T).toArray).data.toList = 48 :: T from rfl, HR3.out]
  simp only [rdV]
  go_wp2_with fail
  have hR' := hR.below (((Below.refl _ _).alloc (Nat.le_refl _) (.cells #[.int .i64 0, .int .i64 0] 23)).alloc (by simp) (.cells #[.int .u8 (c.toNat : Int)] 5))
  refine (read_any _ _ hR' (by rw [sz]; simp; omega)).mono ?_
  rintro e w8 ⟨rfl, hb8⟩
  have hs8 : Below w7.heap.size w7 w8 := Below.trans (by repeat (first | exact Below.refl _ _ | refine Below.alloc ?_ (by simp <;> omega) _)) (hb8.mono (by simp <;> omega))
  replace c_x_0 := cell_later hs8 c_x_0
  replace c_x_1 := cell_later hs8 c_x_1
  replace c_y_0 := cell_later hs8 c_y_0
  replace c_y_1 := cell_later hs8 c_y_1
  replace c_z_0 := cell_later hs8 c_z_0
  replace c_z_1 := cell_later hs8 c_z_1
  clear z_x
  have z_x := World.block_lt_of_cell? _ _ c_x_0
  clear z_y
  have z_y := World.block_lt_of_cell? _ _ c_y_0
  clear z_z
  have z_z := World.block_lt_of_cell? _ _ c_z_0
  have hB8 := below_two hB7 hs8
  replace hR := hR.below hs8
  clear hB7 hs8 hb8
  clear hR'
  rw [show (ByteArray.mk (T ++ [c]).toArray).data.toList = T ++ [c] from rfl, HR4.out]
  simp only [rdV]
  go_wp2_with fail
  refine (ratio_right _ _ _).mono ?_
  rintro e w9 ⟨rfl, hb9⟩
  have hs9 : Below w8.heap.size w8 w9 := Below.trans (by repeat (first | exact Below.refl _ _ | refine Below.alloc ?_ (by simp <;> omega) _)) (hb9.mono (by simp <;> omega))
  clear c_y_0
  clear c_y_1
  clear c_z_0
  clear c_z_1
  replace c_x_0 := cell_later hs9 c_x_0
  replace c_x_1 := cell_later hs9 c_x_1
  have c_v_0 : w9.cell? ⟨w8.heap.size, 0, none⟩ = some (.int .i64 (0)) := (hb9.cell (by simp <;> omega)).trans (by go_simp)
  have c_v_1 : w9.cell? ⟨w8.heap.size, 1, none⟩ = some (.int .i64 (0)) := (hb9.cell (by simp <;> omega)).trans (by go_simp)
  have z_v := World.block_lt_of_cell? _ _ c_v_0
  clear z_x
  have z_x := World.block_lt_of_cell? _ _ c_x_0
  clear z_y
  clear z_z
  have hB9 := below_two hB8 hs9
  replace hR := hR.below hs9
  clear hB8 hs9 hb9
  rw [hrz]
  go_wp2
  go_ret
  exact ⟨rfl, hB9⟩

set_option maxRecDepth 100000 in
set_option maxHeartbeats 4000000 in
theorem text_w3 (a b xn xd vn vd : Int) (s : ByteArray) (c : UInt8) (T : List UInt8) (w : World) (hR : Ready w) (HX : Hid (∀ w, Calls Tryd.prog 17 #[rt a b] w fun e w' => e = .returned (rt xn xd) ∧ Below w.heap.size w w')) (HT : Hid (txtV (Rat.right xn xd) xn xd = T ∧ floorE (Rat.right xn xd) = 0)) (hT : T.length ≤ 100) (HR1 : Hid (rd T = some (xn, xd))) (F : ByteArray) (hF : F.size ≤ 30) (HF : Hid (s.extract 0 (min (s.size : Int) 30).toNat = F)) (HR2 : Hid (rd F.data.toList = none)) (HT2 : Hid (txtV (Rat.right 0 0) 0 0 = [] ∧ floorE (Rat.right 0 0) = 10)) (HR3 : Hid (rd (48 :: T) = none)) (HR4 : Hid (rd (T ++ [c]) = some (vn, vd))) (c1 : 48 ≤ c.toNat) (c2 : c.toNat ≤ 57) (hv : eqR vn vd xn xd = false) : Calls Tryd.prog 9 #[rt a b, .string s, .int .u8 (c.toNat : Int)] w fun e w' => e = .returned (.bool true) ∧ Below w.heap.size w w' := by
  have hgR := guardR
  have heq := eql_rt
  have hne := neq_rt
  have hself := eqR_self
  have a1 : ∀ w : World, (Op.stringOp .add ⟨#[48]⟩ ⟨T.toArray⟩).run Tryd.prog w = .ok (.string ⟨(48 :: T).toArray⟩) w := fun w => run_string_add_lists w [48] T (by decide) (by omega)
  have a2 : ∀ w : World, (Op.stringOp .add ⟨T.toArray⟩ ⟨#[c]⟩).run Tryd.prog w = .ok (.string ⟨(T ++ [c]).toArray⟩) w := fun w => run_string_add_lists w T [c] (by omega) (by simp)
  have a3 := conv_byte c
  have hB0 : Below w.heap.size w w := Below.refl _ _
  go_enter Tryd.func9, Tryd.ntmps9
  go_wp2_with fail
  have hR' := hR.below ((Below.refl _ _).alloc (Nat.le_refl _) (.cells #[.int .i64 a, .int .i64 b] 23))
  refine (examples_any _ hR').mono ?_
  rintro e w1 ⟨rfl, hb1⟩
  have hs1 : Below w.heap.size w w1 := Below.trans (by repeat (first | exact Below.refl _ _ | refine Below.alloc ?_ (by simp <;> omega) _)) (hb1.mono (by simp <;> omega))
  have c_p_0 : w1.cell? ⟨w.heap.size, 0, none⟩ = some (.int .i64 (a)) := (hb1.cell (by simp <;> omega)).trans (by go_simp)
  have c_p_1 : w1.cell? ⟨w.heap.size, 1, none⟩ = some (.int .i64 (b)) := (hb1.cell (by simp <;> omega)).trans (by go_simp)
  have z_p := World.block_lt_of_cell? _ _ c_p_0
  have hB1 := below_two hB0 hs1
  replace hR := hR.below hs1
  clear hB0 hs1 hb1
  clear hR'
  go_wp2_with fail
  refine (HX.out _).mono ?_
  rintro e w2 ⟨rfl, hb2⟩
  have hs2 := hb2
  replace c_p_0 := cell_later hs2 c_p_0
  replace c_p_1 := cell_later hs2 c_p_1
  clear z_p
  have z_p := World.block_lt_of_cell? _ _ c_p_0
  have hB2 := below_two hB1 hs2
  replace hR := hR.below hs2
  clear hB1 hs2
  go_wp2_with fail
  have hR' := hR.below ((Below.refl _ _).alloc (Nat.le_refl _) (.cells #[.int .i64 xn, .int .i64 xd] 23))
  refine (text_any _ _ _ hR').mono ?_
  rintro e w3 ⟨rfl, hb3⟩
  have hs3 : Below w2.heap.size w2 w3 := Below.trans (by repeat (first | exact Below.refl _ _ | refine Below.alloc ?_ (by simp <;> omega) _)) (hb3.mono (by simp <;> omega))
  clear c_p_0
  clear c_p_1
  have c_x_0 : w3.cell? ⟨w2.heap.size, 0, none⟩ = some (.int .i64 (xn)) := (hb3.cell (by simp <;> omega)).trans (by go_simp)
  have c_x_1 : w3.cell? ⟨w2.heap.size, 1, none⟩ = some (.int .i64 (xd)) := (hb3.cell (by simp <;> omega)).trans (by go_simp)
  have z_x := World.block_lt_of_cell? _ _ c_x_0
  clear z_p
  have hB3 := below_two hB2 hs3
  replace hR := hR.below hs3
  clear hB2 hs3 hb3
  clear hR'
  rw [HT.out.1, HT.out.2]
  go_wp2_with fail
  refine (read_any _ _ hR (by rw [sz]; omega)).mono ?_
  rintro e w4 ⟨rfl, hb4⟩
  have hs4 := hb4
  replace c_x_0 := cell_later hs4 c_x_0
  replace c_x_1 := cell_later hs4 c_x_1
  clear z_x
  have z_x := World.block_lt_of_cell? _ _ c_x_0
  have hB4 := below_two hB3 hs4
  replace hR := hR.below hs4
  clear hB3 hs4
  rw [show (ByteArray.mk T.toArray).data.toList = T from rfl, HR1.out]
  simp only [rdV]
  go_wp2_with fail
  rw [HF.out]
  have hR' := hR.below ((Below.refl _ _).alloc (Nat.le_refl _) (.cells #[.int .i64 xn, .int .i64 xd] 23))
  refine (read_any _ _ hR' (by omega)).mono ?_
  rintro e w5 ⟨rfl, hb5⟩
  have hs5 : Below w4.heap.size w4 w5 := Below.trans (by repeat (first | exact Below.refl _ _ | refine Below.alloc ?_ (by simp <;> omega) _)) (hb5.mono (by simp <;> omega))
  replace c_x_0 := cell_later hs5 c_x_0
  replace c_x_1 := cell_later hs5 c_x_1
  have c_y_0 : w5.cell? ⟨w4.heap.size, 0, none⟩ = some (.int .i64 (xn)) := (hb5.cell (by simp <;> omega)).trans (by go_simp)
  have c_y_1 : w5.cell? ⟨w4.heap.size, 1, none⟩ = some (.int .i64 (xd)) := (hb5.cell (by simp <;> omega)).trans (by go_simp)
  clear z_x
  have z_x := World.block_lt_of_cell? _ _ c_x_0
  have z_y := World.block_lt_of_cell? _ _ c_y_0
  have hB5 := below_two hB4 hs5
  replace hR := hR.below hs5
  clear hB4 hs5 hb5
  clear hR'
  rw [HR2.out]
  simp only [rdV]
  go_wp2_with fail
  have hR' := hR.below ((Below.refl _ _).alloc (Nat.le_refl _) (.cells #[.int .i64 0, .int .i64 0] 23))
  refine (text_any _ _ _ hR').mono ?_
  rintro e w6 ⟨rfl, hb6⟩
  have hs6 : Below w5.heap.size w5 w6 := Below.trans (by repeat (first | exact Below.refl _ _ | refine Below.alloc ?_ (by simp <;> omega) _)) (hb6.mono (by simp <;> omega))
  replace c_x_0 := cell_later hs6 c_x_0
  replace c_x_1 := cell_later hs6 c_x_1
  replace c_y_0 := cell_later hs6 c_y_0
  replace c_y_1 := cell_later hs6 c_y_1
  have c_z_0 : w6.cell? ⟨w5.heap.size, 0, none⟩ = some (.int .i64 (0)) := (hb6.cell (by simp <;> omega)).trans (by go_simp)
  have c_z_1 : w6.cell? ⟨w5.heap.size, 1, none⟩ = some (.int .i64 (0)) := (hb6.cell (by simp <;> omega)).trans (by go_simp)
  clear z_x
  have z_x := World.block_lt_of_cell? _ _ c_x_0
  clear z_y
  have z_y := World.block_lt_of_cell? _ _ c_y_0
  have z_z := World.block_lt_of_cell? _ _ c_z_0
  have hB6 := below_two hB5 hs6
  replace hR := hR.below hs6
  clear hB5 hs6 hb6
  clear hR'
  rw [HT2.out.1, HT2.out.2]
  go_wp2_with fail
  refine (read_any _ _ hR (by rw [sz]; simp; omega)).mono ?_
  rintro e w7 ⟨rfl, hb7⟩
  have hs7 := hb7
  replace c_x_0 := cell_later hs7 c_x_0
  replace c_x_1 := cell_later hs7 c_x_1
  replace c_y_0 := cell_later hs7 c_y_0
  replace c_y_1 := cell_later hs7 c_y_1
  replace c_z_0 := cell_later hs7 c_z_0
  replace c_z_1 := cell_later hs7 c_z_1
  clear z_x
  have z_x := World.block_lt_of_cell? _ _ c_x_0
  clear z_y
  have z_y := World.block_lt_of_cell? _ _ c_y_0
  clear z_z
  have z_z := World.block_lt_of_cell? _ _ c_z_0
  have hB7 := below_two hB6 hs7
  replace hR := hR.below hs7
  clear hB6 hs7
  rw [show (ByteArray.mk (48 :: T).toArray).data.toList = 48 :: T from rfl, HR3.out]
  simp only [rdV]
  go_wp2_with fail
  have hR' := hR.below (((Below.refl _ _).alloc (Nat.le_refl _) (.cells #[.int .i64 0, .int .i64 0] 23)).alloc (by simp) (.cells #[.int .u8 (c.toNat : Int)] 5))
  refine (read_any _ _ hR' (by rw [sz]; simp; omega)).mono ?_
  rintro e w8 ⟨rfl, hb8⟩
  have hs8 : Below w7.heap.size w7 w8 := Below.trans (by repeat (first | exact Below.refl _ _ | refine Below.alloc ?_ (by simp <;> omega) _)) (hb8.mono (by simp <;> omega))
  replace c_x_0 := cell_later hs8 c_x_0
  replace c_x_1 := cell_later hs8 c_x_1
  replace c_y_0 := cell_later hs8 c_y_0
  replace c_y_1 := cell_later hs8 c_y_1
  replace c_z_0 := cell_later hs8 c_z_0
  replace c_z_1 := cell_later hs8 c_z_1
  clear z_x
  have z_x := World.block_lt_of_cell? _ _ c_x_0
  clear z_y
  have z_y := World.block_lt_of_cell? _ _ c_y_0
  clear z_z
  have z_z := World.block_lt_of_cell? _ _ c_z_0
  have hB8 := below_two hB7 hs8
  replace hR := hR.below hs8
  clear hB7 hs8 hb8
  clear hR'
  rw [show (ByteArray.mk (T ++ [c]).toArray).data.toList = T ++ [c] from rfl, HR4.out]
  simp only [rdV]
  go_wp2
  go_ret
  exact ⟨rfl, (hB8.alloc hB8.size _)⟩

set_option maxRecDepth 100000 in
set_option maxHeartbeats 4000000 in
theorem text_w4 (a b xn xd : Int) (s : ByteArray) (c : UInt8) (T : List UInt8) (w : World) (hR : Ready w) (HX : Hid (∀ w, Calls Tryd.prog 17 #[rt a b] w fun e w' => e = .returned (rt xn xd) ∧ Below w.heap.size w w')) (HT : Hid (txtV (Rat.right xn xd) xn xd = T ∧ floorE (Rat.right xn xd) = 0)) (hT : T.length ≤ 100) (HR1 : Hid (rd T = some (xn, xd))) (F : ByteArray) (hF : F.size ≤ 30) (HF : Hid (s.extract 0 (min (s.size : Int) 30).toNat = F)) (HR2 : Hid (rd F.data.toList = none)) (HT2 : Hid (txtV (Rat.right 0 0) 0 0 = [] ∧ floorE (Rat.right 0 0) = 10)) (HR3 : Hid (rd (48 :: T) = none)) (HR4 : Hid (rd (T ++ [c]) = none)) : Calls Tryd.prog 9 #[rt a b, .string s, .int .u8 (c.toNat : Int)] w fun e w' => e = .returned (.bool true) ∧ Below w.heap.size w w' := by
  have hgR := guardR
  have heq := eql_rt
  have hne := neq_rt
  have hself := eqR_self
  have a1 : ∀ w : World, (Op.stringOp .add ⟨#[48]⟩ ⟨T.toArray⟩).run Tryd.prog w = .ok (.string ⟨(48 :: T).toArray⟩) w := fun w => run_string_add_lists w [48] T (by decide) (by omega)
  have a2 : ∀ w : World, (Op.stringOp .add ⟨T.toArray⟩ ⟨#[c]⟩).run Tryd.prog w = .ok (.string ⟨(T ++ [c]).toArray⟩) w := fun w => run_string_add_lists w T [c] (by omega) (by simp)
  have a3 := conv_byte c
  have hB0 : Below w.heap.size w w := Below.refl _ _
  go_enter Tryd.func9, Tryd.ntmps9
  go_wp2_with fail
  have hR' := hR.below ((Below.refl _ _).alloc (Nat.le_refl _) (.cells #[.int .i64 a, .int .i64 b] 23))
  refine (examples_any _ hR').mono ?_
  rintro e w1 ⟨rfl, hb1⟩
  have hs1 : Below w.heap.size w w1 := Below.trans (by repeat (first | exact Below.refl _ _ | refine Below.alloc ?_ (by simp <;> omega) _)) (hb1.mono (by simp <;> omega))
  have c_p_0 : w1.cell? ⟨w.heap.size, 0, none⟩ = some (.int .i64 (a)) := (hb1.cell (by simp <;> omega)).trans (by go_simp)
  have c_p_1 : w1.cell? ⟨w.heap.size, 1, none⟩ = some (.int .i64 (b)) := (hb1.cell (by simp <;> omega)).trans (by go_simp)
  have z_p := World.block_lt_of_cell? _ _ c_p_0
  have hB1 := below_two hB0 hs1
  replace hR := hR.below hs1
  clear hB0 hs1 hb1
  clear hR'
  go_wp2_with fail
  refine (HX.out _).mono ?_
  rintro e w2 ⟨rfl, hb2⟩
  have hs2 := hb2
  replace c_p_0 := cell_later hs2 c_p_0
  replace c_p_1 := cell_later hs2 c_p_1
  clear z_p
  have z_p := World.block_lt_of_cell? _ _ c_p_0
  have hB2 := below_two hB1 hs2
  replace hR := hR.below hs2
  clear hB1 hs2
  go_wp2_with fail
  have hR' := hR.below ((Below.refl _ _).alloc (Nat.le_refl _) (.cells #[.int .i64 xn, .int .i64 xd] 23))
  refine (text_any _ _ _ hR').mono ?_
  rintro e w3 ⟨rfl, hb3⟩
  have hs3 : Below w2.heap.size w2 w3 := Below.trans (by repeat (first | exact Below.refl _ _ | refine Below.alloc ?_ (by simp <;> omega) _)) (hb3.mono (by simp <;> omega))
  clear c_p_0
  clear c_p_1
  have c_x_0 : w3.cell? ⟨w2.heap.size, 0, none⟩ = some (.int .i64 (xn)) := (hb3.cell (by simp <;> omega)).trans (by go_simp)
  have c_x_1 : w3.cell? ⟨w2.heap.size, 1, none⟩ = some (.int .i64 (xd)) := (hb3.cell (by simp <;> omega)).trans (by go_simp)
  have z_x := World.block_lt_of_cell? _ _ c_x_0
  clear z_p
  have hB3 := below_two hB2 hs3
  replace hR := hR.below hs3
  clear hB2 hs3 hb3
  clear hR'
  rw [HT.out.1, HT.out.2]
  go_wp2_with fail
  refine (read_any _ _ hR (by rw [sz]; omega)).mono ?_
  rintro e w4 ⟨rfl, hb4⟩
  have hs4 := hb4
  replace c_x_0 := cell_later hs4 c_x_0
  replace c_x_1 := cell_later hs4 c_x_1
  clear z_x
  have z_x := World.block_lt_of_cell? _ _ c_x_0
  have hB4 := below_two hB3 hs4
  replace hR := hR.below hs4
  clear hB3 hs4
  rw [show (ByteArray.mk T.toArray).data.toList = T from rfl, HR1.out]
  simp only [rdV]
  go_wp2_with fail
  rw [HF.out]
  have hR' := hR.below ((Below.refl _ _).alloc (Nat.le_refl _) (.cells #[.int .i64 xn, .int .i64 xd] 23))
  refine (read_any _ _ hR' (by omega)).mono ?_
  rintro e w5 ⟨rfl, hb5⟩
  have hs5 : Below w4.heap.size w4 w5 := Below.trans (by repeat (first | exact Below.refl _ _ | refine Below.alloc ?_ (by simp <;> omega) _)) (hb5.mono (by simp <;> omega))
  replace c_x_0 := cell_later hs5 c_x_0
  replace c_x_1 := cell_later hs5 c_x_1
  have c_y_0 : w5.cell? ⟨w4.heap.size, 0, none⟩ = some (.int .i64 (xn)) := (hb5.cell (by simp <;> omega)).trans (by go_simp)
  have c_y_1 : w5.cell? ⟨w4.heap.size, 1, none⟩ = some (.int .i64 (xd)) := (hb5.cell (by simp <;> omega)).trans (by go_simp)
  clear z_x
  have z_x := World.block_lt_of_cell? _ _ c_x_0
  have z_y := World.block_lt_of_cell? _ _ c_y_0
  have hB5 := below_two hB4 hs5
  replace hR := hR.below hs5
  clear hB4 hs5 hb5
  clear hR'
  rw [HR2.out]
  simp only [rdV]
  go_wp2_with fail
  have hR' := hR.below ((Below.refl _ _).alloc (Nat.le_refl _) (.cells #[.int .i64 0, .int .i64 0] 23))
  refine (text_any _ _ _ hR').mono ?_
  rintro e w6 ⟨rfl, hb6⟩
  have hs6 : Below w5.heap.size w5 w6 := Below.trans (by repeat (first | exact Below.refl _ _ | refine Below.alloc ?_ (by simp <;> omega) _)) (hb6.mono (by simp <;> omega))
  replace c_x_0 := cell_later hs6 c_x_0
  replace c_x_1 := cell_later hs6 c_x_1
  replace c_y_0 := cell_later hs6 c_y_0
  replace c_y_1 := cell_later hs6 c_y_1
  have c_z_0 : w6.cell? ⟨w5.heap.size, 0, none⟩ = some (.int .i64 (0)) := (hb6.cell (by simp <;> omega)).trans (by go_simp)
  have c_z_1 : w6.cell? ⟨w5.heap.size, 1, none⟩ = some (.int .i64 (0)) := (hb6.cell (by simp <;> omega)).trans (by go_simp)
  clear z_x
  have z_x := World.block_lt_of_cell? _ _ c_x_0
  clear z_y
  have z_y := World.block_lt_of_cell? _ _ c_y_0
  have z_z := World.block_lt_of_cell? _ _ c_z_0
  have hB6 := below_two hB5 hs6
  replace hR := hR.below hs6
  clear hB5 hs6 hb6
  clear hR'
  rw [HT2.out.1, HT2.out.2]
  go_wp2_with fail
  refine (read_any _ _ hR (by rw [sz]; simp; omega)).mono ?_
  rintro e w7 ⟨rfl, hb7⟩
  have hs7 := hb7
  replace c_x_0 := cell_later hs7 c_x_0
  replace c_x_1 := cell_later hs7 c_x_1
  replace c_y_0 := cell_later hs7 c_y_0
  replace c_y_1 := cell_later hs7 c_y_1
  replace c_z_0 := cell_later hs7 c_z_0
  replace c_z_1 := cell_later hs7 c_z_1
  clear z_x
  have z_x := World.block_lt_of_cell? _ _ c_x_0
  clear z_y
  have z_y := World.block_lt_of_cell? _ _ c_y_0
  clear z_z
  have z_z := World.block_lt_of_cell? _ _ c_z_0
  have hB7 := below_two hB6 hs7
  replace hR := hR.below hs7
  clear hB6 hs7
  rw [show (ByteArray.mk (48 :: T).toArray).data.toList = 48 :: T from rfl, HR3.out]
  simp only [rdV]
  go_wp2_with fail
  have hR' := hR.below (((Below.refl _ _).alloc (Nat.le_refl _) (.cells #[.int .i64 0, .int .i64 0] 23)).alloc (by simp) (.cells #[.int .u8 (c.toNat : Int)] 5))
  refine (read_any _ _ hR' (by rw [sz]; simp; omega)).mono ?_
  rintro e w8 ⟨rfl, hb8⟩
  have hs8 : Below w7.heap.size w7 w8 := Below.trans (by repeat (first | exact Below.refl _ _ | refine Below.alloc ?_ (by simp <;> omega) _)) (hb8.mono (by simp <;> omega))
  replace c_x_0 := cell_later hs8 c_x_0
  replace c_x_1 := cell_later hs8 c_x_1
  replace c_y_0 := cell_later hs8 c_y_0
  replace c_y_1 := cell_later hs8 c_y_1
  replace c_z_0 := cell_later hs8 c_z_0
  replace c_z_1 := cell_later hs8 c_z_1
  clear z_x
  have z_x := World.block_lt_of_cell? _ _ c_x_0
  clear z_y
  have z_y := World.block_lt_of_cell? _ _ c_y_0
  clear z_z
  have z_z := World.block_lt_of_cell? _ _ c_z_0
  have hB8 := below_two hB7 hs8
  replace hR := hR.below hs8
  clear hB7 hs8 hb8
  clear hR'
  rw [show (ByteArray.mk (T ++ [c]).toArray).data.toList = T ++ [c] from rfl, HR4.out]
  simp only [rdV]
  go_wp2
  go_ret
  exact ⟨rfl, (hB8.alloc hB8.size _)⟩

theorem few_size (s : ByteArray) : (s.extract 0 (min (s.size : Int) 30).toNat).size ≤ 30 := by
  rw [ByteArray.size_extract]; omega

theorem ratioText_calls (a b : Int) (s : ByteArray) (k : Int) (ha : Rat.I64 a) (hb : Rat.I64 b) (_hs : s.size ≤ maxLen) (hk : 0 ≤ k ∧ k ≤ 255) (w : World) (hR : Ready w) : LawHolds 9 #[rt a b, .string s, .int .u8 k] w := by
  obtain ⟨xn, xd, hx, hX⟩ := ratio_fix a b ha hb
  have hr := right_true hx
  obtain ⟨c, rfl⟩ : ∃ c : UInt8, k = (c.toNat : Int) := ⟨UInt8.ofNat k.toNat, by rw [UInt8.toNat_ofNat']; omega⟩
  have hT : txtV (Rat.right xn xd) xn xd = txt xn xd ∧ floorE (Rat.right xn xd) = 0 := by rw [hr]; exact ⟨rfl, rfl⟩
  have hZ : txtV (Rat.right 0 0) 0 0 = [] ∧ floorE (Rat.right 0 0) = 10 := by decide +kernel
  have hF := few_size s
  generalize hFe : s.extract 0 (min (s.size : Int) 30).toNat = F at *
  cases hz : rd F.data.toList with
  | none =>
    cases hv : rd (txt xn xd ++ [c]) with
    | none => exact text_w4 a b xn xd s c _ w hR (Lib.hid hX) (Lib.hid hT) (txt_len hx) (Lib.hid (rd_txt hx)) F hF (Lib.hid hFe) (Lib.hid hz) (Lib.hid hZ) (Lib.hid rd_nought) (Lib.hid hv)
    | some p =>
      obtain ⟨vn, vd⟩ := p
      obtain ⟨c1, c2, hq⟩ := rd_more hv
      exact text_w3 a b xn xd vn vd s c _ w hR (Lib.hid hX) (Lib.hid hT) (txt_len hx) (Lib.hid (rd_txt hx)) F hF (Lib.hid hFe) (Lib.hid hz) (Lib.hid hZ) (Lib.hid rd_nought) (Lib.hid hv) c1 c2 hq
  | some p =>
    obtain ⟨zn, zd⟩ := p
    obtain ⟨hrz, htz⟩ := rd_some hz
    have hT2 : txtV (Rat.right zn zd) zn zd = F.data.toList ∧ floorE (Rat.right zn zd) = 0 := by rw [hrz]; exact ⟨htz, rfl⟩
    cases hv : rd (txt xn xd ++ [c]) with
    | none => exact text_w2 a b xn xd zn zd s c _ w hR (Lib.hid hX) (Lib.hid hT) (txt_len hx) (Lib.hid (rd_txt hx)) F hF (Lib.hid hFe) (Lib.hid hz) hrz (Lib.hid hT2) (Lib.hid rd_nought) (Lib.hid hv)
    | some p =>
      obtain ⟨vn, vd⟩ := p
      obtain ⟨c1, c2, hq⟩ := rd_more hv
      exact text_w1 a b xn xd zn zd vn vd s c _ w hR (Lib.hid hX) (Lib.hid hT) (txt_len hx) (Lib.hid (rd_txt hx)) F hF (Lib.hid hFe) (Lib.hid hz) hrz (Lib.hid hT2) (Lib.hid rd_nought) (Lib.hid hv) c1 c2 hq
end Go.Proofs.YtgndmaihhkhnpaaDoor
