/-
  The contract of the reference's Text.
-/
import Derived.Test.YtejiifkenanodaaGreatDoorValP
import Derived.Test.YtejiifkenanodaaGreatDoorValH
import Derived.Test.YtejiifkenanodaaGreatDoorRatR2
import Derived.LoopN
namespace Go.Proofs.YtejiifkenanodaaGreatDoor
open Go.RowKit

set_option maxRecDepth 100000 in
set_option maxHeartbeats 4000000 in
theorem vrefText_no (b d n e : Int) (w : World) (h : Val.ok b d n e = false) :
    Calls Tryz.prog 18 #[vl b d n e] w fun ed w' => ed = .returned (.tuple #[.string ⟨#[]⟩, .int .i64 40]) ∧ Below w.heap.size w w' := by
  have hB0 : Below w.heap.size w w := Below.refl _ _
  go_enter Tryz.func18, Tryz.ntmps18
  go_wp2_with fail
  refine (vrefRight_any b d n e _).mono ?_
  rintro e w1 ⟨rfl, hb1⟩
  have hs1 : Below w.heap.size w w1 := Below.trans (by repeat (first | exact Below.refl _ _ | refine Below.alloc ?_ (by simp <;> omega) _)) (hb1.mono (by simp <;> omega))
  have c_v_0 : w1.cell? ⟨w.heap.size, 0, none⟩ = some (.int .i64 b) := (hb1.cell (by simp <;> omega)).trans (by go_simp)
  have c_v_1 : w1.cell? ⟨w.heap.size, 1, none⟩ = some (.int .i64 d) := (hb1.cell (by simp <;> omega)).trans (by go_simp)
  have c_v_2 : w1.cell? ⟨w.heap.size, 2, none⟩ = some (.int .i64 n) := (hb1.cell (by simp <;> omega)).trans (by go_simp)
  have c_v_3 : w1.cell? ⟨w.heap.size, 3, none⟩ = some (.int .i64 e) := (hb1.cell (by simp <;> omega)).trans (by go_simp)
  have z_v := World.block_lt_of_cell? _ _ c_v_0
  have hB1 := below_two hB0 hs1
  clear hB0 hs1 hb1
  rw [h]
  go_wp2
  go_ret2
  exact ⟨rfl, hB1⟩

set_option maxRecDepth 100000 in
set_option maxHeartbeats 4000000 in
theorem vrefText_plain0 (b n e : Int) (w : World) (h : Val.ok b 0 n e = true) (p : Int) (x : List UInt8) (lx : x.length ≤ 50) (HP : Hid (∀ w, Calls Tryz.prog 39 #[.int .i64 b] w fun ed w' => ed = .returned (.int .i64 p) ∧ w = w')) (HX : Hid (∀ w, Calls Tryz.prog 45 #[.int .i64 p] w fun ed w' => ed = .returned (.string ⟨x.toArray⟩) ∧ Below w.heap.size w w')) (hn : ¬ 0 < n) :
    Calls Tryz.prog 18 #[vl b 0 n e] w fun ed w' => ed = .returned (.tuple #[.string ⟨x.toArray⟩, .int .i64 0]) ∧ Below w.heap.size w w' := by
  have _ := lx
  have hB0 : Below w.heap.size w w := Below.refl _ _
  go_enter Tryz.func18, Tryz.ntmps18
  go_wp2_with fail
  refine (vrefRight_any b 0 n e _).mono ?_
  rintro e w1 ⟨rfl, hb1⟩
  have hs1 : Below w.heap.size w w1 := Below.trans (by repeat (first | exact Below.refl _ _ | refine Below.alloc ?_ (by simp <;> omega) _)) (hb1.mono (by simp <;> omega))
  have c_v_0 : w1.cell? ⟨w.heap.size, 0, none⟩ = some (.int .i64 b) := (hb1.cell (by simp <;> omega)).trans (by go_simp)
  have c_v_1 : w1.cell? ⟨w.heap.size, 1, none⟩ = some (.int .i64 0) := (hb1.cell (by simp <;> omega)).trans (by go_simp)
  have c_v_2 : w1.cell? ⟨w.heap.size, 2, none⟩ = some (.int .i64 n) := (hb1.cell (by simp <;> omega)).trans (by go_simp)
  have c_v_3 : w1.cell? ⟨w.heap.size, 3, none⟩ = some (.int .i64 e) := (hb1.cell (by simp <;> omega)).trans (by go_simp)
  have z_v := World.block_lt_of_cell? _ _ c_v_0
  have hB1 := below_two hB0 hs1
  clear hB0 hs1 hb1
  rw [h]
  go_wp2_with fail
  refine (HP.out _).mono ?_
  rintro e wx ⟨rfl, rfl⟩
  go_wp2_with fail
  refine (HX.out _).mono ?_
  rintro e w2 ⟨rfl, hb2⟩
  have hs2 := hb2
  replace c_v_0 := cell_later hs2 c_v_0
  replace c_v_1 := cell_later hs2 c_v_1
  replace c_v_2 := cell_later hs2 c_v_2
  replace c_v_3 := cell_later hs2 c_v_3
  clear z_v
  have z_v := World.block_lt_of_cell? _ _ c_v_0
  have hB2 := below_two hB1 hs2
  clear hB1 hs2
  go_wp2
  refine wp_loop_rounds 1 ?_
  rw [rounds_succ]
  go_wp2_with fail
  go_wp2
  go_ret2
  exact ⟨rfl, hB2⟩

set_option maxRecDepth 100000 in
set_option maxHeartbeats 4000000 in
theorem vrefText_tuplet0 (b n e : Int) (w : World) (h : Val.ok b 0 n e = true) (p : Int) (x : List UInt8) (lx : x.length ≤ 50) (HP : Hid (∀ w, Calls Tryz.prog 39 #[.int .i64 b] w fun ed w' => ed = .returned (.int .i64 p) ∧ w = w')) (HX : Hid (∀ w, Calls Tryz.prog 45 #[.int .i64 p] w fun ed w' => ed = .returned (.string ⟨x.toArray⟩) ∧ Below w.heap.size w w')) (hn : 0 < n) (lp : (Lib.itoa n).length ≤ 50) (lq : (Lib.itoa e).length ≤ 50) (in1 : Rat.I64 n) (in2 : Rat.I64 e) (c1 : List UInt8) (H1 : Hid (c1 = x ++ [42])) (c2 : List UInt8) (H2 : Hid (c2 = c1 ++ (Lib.itoa n))) (c3 : List UInt8) (H3 : Hid (c3 = c2 ++ [58])) (c4 : List UInt8) (H4 : Hid (c4 = c3 ++ (Lib.itoa e))) :
    Calls Tryz.prog 18 #[vl b 0 n e] w fun ed w' => ed = .returned (.tuple #[.string ⟨c4.toArray⟩, .int .i64 0]) ∧ Below w.heap.size w w' := by
  have lc1 : c1.length ≤ 51 := by rw [H1.out, List.length_append]; (try simp); omega
  have a1 : ∀ w : World, (Op.stringOp .add ⟨x.toArray⟩ ⟨#[42]⟩).run Tryz.prog w = .ok (.string ⟨c1.toArray⟩) w := fun w => by rw [H1.out]; exact run_string_add_lists w x [42] (by omega) (by (try simp); (try omega))
  have lc2 : c2.length ≤ 101 := by rw [H2.out, List.length_append]; (try simp); omega
  have a2 : ∀ w : World, (Op.stringOp .add ⟨c1.toArray⟩ ⟨(Lib.itoa n).toArray⟩).run Tryz.prog w = .ok (.string ⟨c2.toArray⟩) w := fun w => by rw [H2.out]; exact run_string_add_lists w c1 (Lib.itoa n) (by omega) (by (try simp); (try omega))
  have lc3 : c3.length ≤ 102 := by rw [H3.out, List.length_append]; (try simp); omega
  have a3 : ∀ w : World, (Op.stringOp .add ⟨c2.toArray⟩ ⟨#[58]⟩).run Tryz.prog w = .ok (.string ⟨c3.toArray⟩) w := fun w => by rw [H3.out]; exact run_string_add_lists w c2 [58] (by omega) (by (try simp); (try omega))
  have lc4 : c4.length ≤ 152 := by rw [H4.out, List.length_append]; (try simp); omega
  have a4 : ∀ w : World, (Op.stringOp .add ⟨c3.toArray⟩ ⟨(Lib.itoa e).toArray⟩).run Tryz.prog w = .ok (.string ⟨c4.toArray⟩) w := fun w => by rw [H4.out]; exact run_string_add_lists w c3 (Lib.itoa e) (by omega) (by (try simp); (try omega))
  clear lc1 lc2 lc3 lc4
  have hB0 : Below w.heap.size w w := Below.refl _ _
  go_enter Tryz.func18, Tryz.ntmps18
  go_wp2_with fail
  refine (vrefRight_any b 0 n e _).mono ?_
  rintro e w1 ⟨rfl, hb1⟩
  have hs1 : Below w.heap.size w w1 := Below.trans (by repeat (first | exact Below.refl _ _ | refine Below.alloc ?_ (by simp <;> omega) _)) (hb1.mono (by simp <;> omega))
  have c_v_0 : w1.cell? ⟨w.heap.size, 0, none⟩ = some (.int .i64 b) := (hb1.cell (by simp <;> omega)).trans (by go_simp)
  have c_v_1 : w1.cell? ⟨w.heap.size, 1, none⟩ = some (.int .i64 0) := (hb1.cell (by simp <;> omega)).trans (by go_simp)
  have c_v_2 : w1.cell? ⟨w.heap.size, 2, none⟩ = some (.int .i64 n) := (hb1.cell (by simp <;> omega)).trans (by go_simp)
  have c_v_3 : w1.cell? ⟨w.heap.size, 3, none⟩ = some (.int .i64 e) := (hb1.cell (by simp <;> omega)).trans (by go_simp)
  have z_v := World.block_lt_of_cell? _ _ c_v_0
  have hB1 := below_two hB0 hs1
  clear hB0 hs1 hb1
  rw [h]
  go_wp2_with fail
  refine (HP.out _).mono ?_
  rintro e wx ⟨rfl, rfl⟩
  go_wp2_with fail
  refine (HX.out _).mono ?_
  rintro e w2 ⟨rfl, hb2⟩
  have hs2 := hb2
  replace c_v_0 := cell_later hs2 c_v_0
  replace c_v_1 := cell_later hs2 c_v_1
  replace c_v_2 := cell_later hs2 c_v_2
  replace c_v_3 := cell_later hs2 c_v_3
  clear z_v
  have z_v := World.block_lt_of_cell? _ _ c_v_0
  have hB2 := below_two hB1 hs2
  clear hB1 hs2
  go_wp2
  refine wp_loop_rounds 1 ?_
  rw [rounds_succ]
  go_wp2_with fail
  go_wp2_with fail
  have QB : Hid (∀ dd os, Below w.heap.size w (Go.Sort.grow (redrawn w2 dd) os)) := Lib.hid (fun dd os => below_two hB2 (below_regrown w2 dd os))
  have g_c_v_0 := fun dd os => cell_regrown c_v_0 dd os
  have g_c_v_1 := fun dd os => cell_regrown c_v_1 dd os
  have g_c_v_2 := fun dd os => cell_regrown c_v_2 dd os
  have g_c_v_3 := fun dd os => cell_regrown c_v_3 dd os
  have q0 : Hid (∀ dd os m, Rat.I64 m → Calls Tryz.prog 45 #[.int .i64 m] (Go.Sort.grow (redrawn w2 dd) os) fun e w'' => e = .returned (.string ⟨(Lib.itoa m).toArray⟩) ∧ ∃ p : Regrown, w'' = Go.Sort.grow (redrawn w2 p.d) p.os) := Lib.hid (fun dd os m hm => Calls.regrown_of (number_any m _ hm))
  refine wp_region_quiet_below (by kernel_rfl) (by kernel_rfl) ?_
  repeat (quiet_step (first | (go_at_call 45; refine q0.out _ _ _ ?_; first | exact in1 | exact in2)))
  refine wpQuiet_nil ?_
  intro _ hw'
  obtain ⟨⟨dq, osq⟩, hw''⟩ := hw'
  subst hw''
  replace c_v_0 := g_c_v_0 dq osq
  clear g_c_v_0
  replace c_v_1 := g_c_v_1 dq osq
  clear g_c_v_1
  replace c_v_2 := g_c_v_2 dq osq
  clear g_c_v_2
  replace c_v_3 := g_c_v_3 dq osq
  clear g_c_v_3
  clear q0
  have hB3 := QB.out dq osq
  clear QB hB2 z_v
  generalize Go.Sort.grow (redrawn w2 dq) osq = w3 at *
  have z_v := World.block_lt_of_cell? _ _ c_v_0
  go_wp2
  go_ret2
  exact ⟨rfl, hB3⟩

set_option maxRecDepth 100000 in
set_option maxHeartbeats 4000000 in
theorem vrefText_plain1 (b n e : Int) (w : World) (h : Val.ok b 1 n e = true) (p : Int) (x : List UInt8) (lx : x.length ≤ 50) (HP : Hid (∀ w, Calls Tryz.prog 39 #[.int .i64 b] w fun ed w' => ed = .returned (.int .i64 p) ∧ w = w')) (HX : Hid (∀ w, Calls Tryz.prog 45 #[.int .i64 p] w fun ed w' => ed = .returned (.string ⟨x.toArray⟩) ∧ Below w.heap.size w w')) (hn : ¬ 0 < n) (c1 : List UInt8) (H1 : Hid (c1 = x ++ [46])) :
    Calls Tryz.prog 18 #[vl b 1 n e] w fun ed w' => ed = .returned (.tuple #[.string ⟨c1.toArray⟩, .int .i64 0]) ∧ Below w.heap.size w w' := by
  have lc1 : c1.length ≤ 51 := by rw [H1.out, List.length_append]; (try simp); omega
  have a1 : ∀ w : World, (Op.stringOp .add ⟨x.toArray⟩ ⟨#[46]⟩).run Tryz.prog w = .ok (.string ⟨c1.toArray⟩) w := fun w => by rw [H1.out]; exact run_string_add_lists w x [46] (by omega) (by (try simp); (try omega))
  clear lc1
  have hB0 : Below w.heap.size w w := Below.refl _ _
  go_enter Tryz.func18, Tryz.ntmps18
  go_wp2_with fail
  refine (vrefRight_any b 1 n e _).mono ?_
  rintro e w1 ⟨rfl, hb1⟩
  have hs1 : Below w.heap.size w w1 := Below.trans (by repeat (first | exact Below.refl _ _ | refine Below.alloc ?_ (by simp <;> omega) _)) (hb1.mono (by simp <;> omega))
  have c_v_0 : w1.cell? ⟨w.heap.size, 0, none⟩ = some (.int .i64 b) := (hb1.cell (by simp <;> omega)).trans (by go_simp)
  have c_v_1 : w1.cell? ⟨w.heap.size, 1, none⟩ = some (.int .i64 1) := (hb1.cell (by simp <;> omega)).trans (by go_simp)
  have c_v_2 : w1.cell? ⟨w.heap.size, 2, none⟩ = some (.int .i64 n) := (hb1.cell (by simp <;> omega)).trans (by go_simp)
  have c_v_3 : w1.cell? ⟨w.heap.size, 3, none⟩ = some (.int .i64 e) := (hb1.cell (by simp <;> omega)).trans (by go_simp)
  have z_v := World.block_lt_of_cell? _ _ c_v_0
  have hB1 := below_two hB0 hs1
  clear hB0 hs1 hb1
  rw [h]
  go_wp2_with fail
  refine (HP.out _).mono ?_
  rintro e wx ⟨rfl, rfl⟩
  go_wp2_with fail
  refine (HX.out _).mono ?_
  rintro e w2 ⟨rfl, hb2⟩
  have hs2 := hb2
  replace c_v_0 := cell_later hs2 c_v_0
  replace c_v_1 := cell_later hs2 c_v_1
  replace c_v_2 := cell_later hs2 c_v_2
  replace c_v_3 := cell_later hs2 c_v_3
  clear z_v
  have z_v := World.block_lt_of_cell? _ _ c_v_0
  have hB2 := below_two hB1 hs2
  clear hB1 hs2
  go_wp2
  refine wp_loop_rounds 2 ?_
  rw [rounds_succ]
  go_wp2
  rw [rounds_succ]
  go_wp2_with fail
  go_wp2
  go_ret2
  exact ⟨rfl, hB2⟩

set_option maxRecDepth 100000 in
set_option maxHeartbeats 4000000 in
theorem vrefText_tuplet1 (b n e : Int) (w : World) (h : Val.ok b 1 n e = true) (p : Int) (x : List UInt8) (lx : x.length ≤ 50) (HP : Hid (∀ w, Calls Tryz.prog 39 #[.int .i64 b] w fun ed w' => ed = .returned (.int .i64 p) ∧ w = w')) (HX : Hid (∀ w, Calls Tryz.prog 45 #[.int .i64 p] w fun ed w' => ed = .returned (.string ⟨x.toArray⟩) ∧ Below w.heap.size w w')) (hn : 0 < n) (lp : (Lib.itoa n).length ≤ 50) (lq : (Lib.itoa e).length ≤ 50) (in1 : Rat.I64 n) (in2 : Rat.I64 e) (c1 : List UInt8) (H1 : Hid (c1 = x ++ [46])) (c2 : List UInt8) (H2 : Hid (c2 = c1 ++ [42])) (c3 : List UInt8) (H3 : Hid (c3 = c2 ++ (Lib.itoa n))) (c4 : List UInt8) (H4 : Hid (c4 = c3 ++ [58])) (c5 : List UInt8) (H5 : Hid (c5 = c4 ++ (Lib.itoa e))) :
    Calls Tryz.prog 18 #[vl b 1 n e] w fun ed w' => ed = .returned (.tuple #[.string ⟨c5.toArray⟩, .int .i64 0]) ∧ Below w.heap.size w w' := by
  have lc1 : c1.length ≤ 51 := by rw [H1.out, List.length_append]; (try simp); omega
  have a1 : ∀ w : World, (Op.stringOp .add ⟨x.toArray⟩ ⟨#[46]⟩).run Tryz.prog w = .ok (.string ⟨c1.toArray⟩) w := fun w => by rw [H1.out]; exact run_string_add_lists w x [46] (by omega) (by (try simp); (try omega))
  have lc2 : c2.length ≤ 52 := by rw [H2.out, List.length_append]; (try simp); omega
  have a2 : ∀ w : World, (Op.stringOp .add ⟨c1.toArray⟩ ⟨#[42]⟩).run Tryz.prog w = .ok (.string ⟨c2.toArray⟩) w := fun w => by rw [H2.out]; exact run_string_add_lists w c1 [42] (by omega) (by (try simp); (try omega))
  have lc3 : c3.length ≤ 102 := by rw [H3.out, List.length_append]; (try simp); omega
  have a3 : ∀ w : World, (Op.stringOp .add ⟨c2.toArray⟩ ⟨(Lib.itoa n).toArray⟩).run Tryz.prog w = .ok (.string ⟨c3.toArray⟩) w := fun w => by rw [H3.out]; exact run_string_add_lists w c2 (Lib.itoa n) (by omega) (by (try simp); (try omega))
  have lc4 : c4.length ≤ 103 := by rw [H4.out, List.length_append]; (try simp); omega
  have a4 : ∀ w : World, (Op.stringOp .add ⟨c3.toArray⟩ ⟨#[58]⟩).run Tryz.prog w = .ok (.string ⟨c4.toArray⟩) w := fun w => by rw [H4.out]; exact run_string_add_lists w c3 [58] (by omega) (by (try simp); (try omega))
  have lc5 : c5.length ≤ 153 := by rw [H5.out, List.length_append]; (try simp); omega
  have a5 : ∀ w : World, (Op.stringOp .add ⟨c4.toArray⟩ ⟨(Lib.itoa e).toArray⟩).run Tryz.prog w = .ok (.string ⟨c5.toArray⟩) w := fun w => by rw [H5.out]; exact run_string_add_lists w c4 (Lib.itoa e) (by omega) (by (try simp); (try omega))
  clear lc1 lc2 lc3 lc4 lc5
  have hB0 : Below w.heap.size w w := Below.refl _ _
  go_enter Tryz.func18, Tryz.ntmps18
  go_wp2_with fail
  refine (vrefRight_any b 1 n e _).mono ?_
  rintro e w1 ⟨rfl, hb1⟩
  have hs1 : Below w.heap.size w w1 := Below.trans (by repeat (first | exact Below.refl _ _ | refine Below.alloc ?_ (by simp <;> omega) _)) (hb1.mono (by simp <;> omega))
  have c_v_0 : w1.cell? ⟨w.heap.size, 0, none⟩ = some (.int .i64 b) := (hb1.cell (by simp <;> omega)).trans (by go_simp)
  have c_v_1 : w1.cell? ⟨w.heap.size, 1, none⟩ = some (.int .i64 1) := (hb1.cell (by simp <;> omega)).trans (by go_simp)
  have c_v_2 : w1.cell? ⟨w.heap.size, 2, none⟩ = some (.int .i64 n) := (hb1.cell (by simp <;> omega)).trans (by go_simp)
  have c_v_3 : w1.cell? ⟨w.heap.size, 3, none⟩ = some (.int .i64 e) := (hb1.cell (by simp <;> omega)).trans (by go_simp)
  have z_v := World.block_lt_of_cell? _ _ c_v_0
  have hB1 := below_two hB0 hs1
  clear hB0 hs1 hb1
  rw [h]
  go_wp2_with fail
  refine (HP.out _).mono ?_
  rintro e wx ⟨rfl, rfl⟩
  go_wp2_with fail
  refine (HX.out _).mono ?_
  rintro e w2 ⟨rfl, hb2⟩
  have hs2 := hb2
  replace c_v_0 := cell_later hs2 c_v_0
  replace c_v_1 := cell_later hs2 c_v_1
  replace c_v_2 := cell_later hs2 c_v_2
  replace c_v_3 := cell_later hs2 c_v_3
  clear z_v
  have z_v := World.block_lt_of_cell? _ _ c_v_0
  have hB2 := below_two hB1 hs2
  clear hB1 hs2
  go_wp2
  refine wp_loop_rounds 2 ?_
  rw [rounds_succ]
  go_wp2
  rw [rounds_succ]
  go_wp2_with fail
  go_wp2_with fail
  have QB : Hid (∀ dd os, Below w.heap.size w (Go.Sort.grow (redrawn w2 dd) os)) := Lib.hid (fun dd os => below_two hB2 (below_regrown w2 dd os))
  have g_c_v_0 := fun dd os => cell_regrown c_v_0 dd os
  have g_c_v_1 := fun dd os => cell_regrown c_v_1 dd os
  have g_c_v_2 := fun dd os => cell_regrown c_v_2 dd os
  have g_c_v_3 := fun dd os => cell_regrown c_v_3 dd os
  have q0 : Hid (∀ dd os m, Rat.I64 m → Calls Tryz.prog 45 #[.int .i64 m] (Go.Sort.grow (redrawn w2 dd) os) fun e w'' => e = .returned (.string ⟨(Lib.itoa m).toArray⟩) ∧ ∃ p : Regrown, w'' = Go.Sort.grow (redrawn w2 p.d) p.os) := Lib.hid (fun dd os m hm => Calls.regrown_of (number_any m _ hm))
  refine wp_region_quiet_below (by kernel_rfl) (by kernel_rfl) ?_
  repeat (quiet_step (first | (go_at_call 45; refine q0.out _ _ _ ?_; first | exact in1 | exact in2)))
  refine wpQuiet_nil ?_
  intro _ hw'
  obtain ⟨⟨dq, osq⟩, hw''⟩ := hw'
  subst hw''
  replace c_v_0 := g_c_v_0 dq osq
  clear g_c_v_0
  replace c_v_1 := g_c_v_1 dq osq
  clear g_c_v_1
  replace c_v_2 := g_c_v_2 dq osq
  clear g_c_v_2
  replace c_v_3 := g_c_v_3 dq osq
  clear g_c_v_3
  clear q0
  have hB3 := QB.out dq osq
  clear QB hB2 z_v
  generalize Go.Sort.grow (redrawn w2 dq) osq = w3 at *
  have z_v := World.block_lt_of_cell? _ _ c_v_0
  go_wp2
  go_ret2
  exact ⟨rfl, hB3⟩

set_option maxRecDepth 100000 in
set_option maxHeartbeats 4000000 in
theorem vrefText_plain2 (b n e : Int) (w : World) (h : Val.ok b 2 n e = true) (p : Int) (x : List UInt8) (lx : x.length ≤ 50) (HP : Hid (∀ w, Calls Tryz.prog 39 #[.int .i64 b] w fun ed w' => ed = .returned (.int .i64 p) ∧ w = w')) (HX : Hid (∀ w, Calls Tryz.prog 45 #[.int .i64 p] w fun ed w' => ed = .returned (.string ⟨x.toArray⟩) ∧ Below w.heap.size w w')) (hn : ¬ 0 < n) (c1 : List UInt8) (H1 : Hid (c1 = x ++ [46])) (c2 : List UInt8) (H2 : Hid (c2 = c1 ++ [46])) :
    Calls Tryz.prog 18 #[vl b 2 n e] w fun ed w' => ed = .returned (.tuple #[.string ⟨c2.toArray⟩, .int .i64 0]) ∧ Below w.heap.size w w' := by
  have lc1 : c1.length ≤ 51 := by rw [H1.out, List.length_append]; (try simp); omega
  have a1 : ∀ w : World, (Op.stringOp .add ⟨x.toArray⟩ ⟨#[46]⟩).run Tryz.prog w = .ok (.string ⟨c1.toArray⟩) w := fun w => by rw [H1.out]; exact run_string_add_lists w x [46] (by omega) (by (try simp); (try omega))
  have lc2 : c2.length ≤ 52 := by rw [H2.out, List.length_append]; (try simp); omega
  have a2 : ∀ w : World, (Op.stringOp .add ⟨c1.toArray⟩ ⟨#[46]⟩).run Tryz.prog w = .ok (.string ⟨c2.toArray⟩) w := fun w => by rw [H2.out]; exact run_string_add_lists w c1 [46] (by omega) (by (try simp); (try omega))
  clear lc1 lc2
  have hB0 : Below w.heap.size w w := Below.refl _ _
  go_enter Tryz.func18, Tryz.ntmps18
  go_wp2_with fail
  refine (vrefRight_any b 2 n e _).mono ?_
  rintro e w1 ⟨rfl, hb1⟩
  have hs1 : Below w.heap.size w w1 := Below.trans (by repeat (first | exact Below.refl _ _ | refine Below.alloc ?_ (by simp <;> omega) _)) (hb1.mono (by simp <;> omega))
  have c_v_0 : w1.cell? ⟨w.heap.size, 0, none⟩ = some (.int .i64 b) := (hb1.cell (by simp <;> omega)).trans (by go_simp)
  have c_v_1 : w1.cell? ⟨w.heap.size, 1, none⟩ = some (.int .i64 2) := (hb1.cell (by simp <;> omega)).trans (by go_simp)
  have c_v_2 : w1.cell? ⟨w.heap.size, 2, none⟩ = some (.int .i64 n) := (hb1.cell (by simp <;> omega)).trans (by go_simp)
  have c_v_3 : w1.cell? ⟨w.heap.size, 3, none⟩ = some (.int .i64 e) := (hb1.cell (by simp <;> omega)).trans (by go_simp)
  have z_v := World.block_lt_of_cell? _ _ c_v_0
  have hB1 := below_two hB0 hs1
  clear hB0 hs1 hb1
  rw [h]
  go_wp2_with fail
  refine (HP.out _).mono ?_
  rintro e wx ⟨rfl, rfl⟩
  go_wp2_with fail
  refine (HX.out _).mono ?_
  rintro e w2 ⟨rfl, hb2⟩
  have hs2 := hb2
  replace c_v_0 := cell_later hs2 c_v_0
  replace c_v_1 := cell_later hs2 c_v_1
  replace c_v_2 := cell_later hs2 c_v_2
  replace c_v_3 := cell_later hs2 c_v_3
  clear z_v
  have z_v := World.block_lt_of_cell? _ _ c_v_0
  have hB2 := below_two hB1 hs2
  clear hB1 hs2
  go_wp2
  refine wp_loop_rounds 3 ?_
  rw [rounds_succ]
  go_wp2
  rw [rounds_succ]
  go_wp2
  rw [rounds_succ]
  go_wp2_with fail
  go_wp2
  go_ret2
  exact ⟨rfl, hB2⟩

set_option maxRecDepth 100000 in
set_option maxHeartbeats 4000000 in
theorem vrefText_tuplet2 (b n e : Int) (w : World) (h : Val.ok b 2 n e = true) (p : Int) (x : List UInt8) (lx : x.length ≤ 50) (HP : Hid (∀ w, Calls Tryz.prog 39 #[.int .i64 b] w fun ed w' => ed = .returned (.int .i64 p) ∧ w = w')) (HX : Hid (∀ w, Calls Tryz.prog 45 #[.int .i64 p] w fun ed w' => ed = .returned (.string ⟨x.toArray⟩) ∧ Below w.heap.size w w')) (hn : 0 < n) (lp : (Lib.itoa n).length ≤ 50) (lq : (Lib.itoa e).length ≤ 50) (in1 : Rat.I64 n) (in2 : Rat.I64 e) (c1 : List UInt8) (H1 : Hid (c1 = x ++ [46])) (c2 : List UInt8) (H2 : Hid (c2 = c1 ++ [46])) (c3 : List UInt8) (H3 : Hid (c3 = c2 ++ [42])) (c4 : List UInt8) (H4 : Hid (c4 = c3 ++ (Lib.itoa n))) (c5 : List UInt8) (H5 : Hid (c5 = c4 ++ [58])) (c6 : List UInt8) (H6 : Hid (c6 = c5 ++ (Lib.itoa e))) :
    Calls Tryz.prog 18 #[vl b 2 n e] w fun ed w' => ed = .returned (.tuple #[.string ⟨c6.toArray⟩, .int .i64 0]) ∧ Below w.heap.size w w' := by
  have lc1 : c1.length ≤ 51 := by rw [H1.out, List.length_append]; (try simp); omega
  have a1 : ∀ w : World, (Op.stringOp .add ⟨x.toArray⟩ ⟨#[46]⟩).run Tryz.prog w = .ok (.string ⟨c1.toArray⟩) w := fun w => by rw [H1.out]; exact run_string_add_lists w x [46] (by omega) (by (try simp); (try omega))
  have lc2 : c2.length ≤ 52 := by rw [H2.out, List.length_append]; (try simp); omega
  have a2 : ∀ w : World, (Op.stringOp .add ⟨c1.toArray⟩ ⟨#[46]⟩).run Tryz.prog w = .ok (.string ⟨c2.toArray⟩) w := fun w => by rw [H2.out]; exact run_string_add_lists w c1 [46] (by omega) (by (try simp); (try omega))
  have lc3 : c3.length ≤ 53 := by rw [H3.out, List.length_append]; (try simp); omega
  have a3 : ∀ w : World, (Op.stringOp .add ⟨c2.toArray⟩ ⟨#[42]⟩).run Tryz.prog w = .ok (.string ⟨c3.toArray⟩) w := fun w => by rw [H3.out]; exact run_string_add_lists w c2 [42] (by omega) (by (try simp); (try omega))
  have lc4 : c4.length ≤ 103 := by rw [H4.out, List.length_append]; (try simp); omega
  have a4 : ∀ w : World, (Op.stringOp .add ⟨c3.toArray⟩ ⟨(Lib.itoa n).toArray⟩).run Tryz.prog w = .ok (.string ⟨c4.toArray⟩) w := fun w => by rw [H4.out]; exact run_string_add_lists w c3 (Lib.itoa n) (by omega) (by (try simp); (try omega))
  have lc5 : c5.length ≤ 104 := by rw [H5.out, List.length_append]; (try simp); omega
  have a5 : ∀ w : World, (Op.stringOp .add ⟨c4.toArray⟩ ⟨#[58]⟩).run Tryz.prog w = .ok (.string ⟨c5.toArray⟩) w := fun w => by rw [H5.out]; exact run_string_add_lists w c4 [58] (by omega) (by (try simp); (try omega))
  have lc6 : c6.length ≤ 154 := by rw [H6.out, List.length_append]; (try simp); omega
  have a6 : ∀ w : World, (Op.stringOp .add ⟨c5.toArray⟩ ⟨(Lib.itoa e).toArray⟩).run Tryz.prog w = .ok (.string ⟨c6.toArray⟩) w := fun w => by rw [H6.out]; exact run_string_add_lists w c5 (Lib.itoa e) (by omega) (by (try simp); (try omega))
  clear lc1 lc2 lc3 lc4 lc5 lc6
  have hB0 : Below w.heap.size w w := Below.refl _ _
  go_enter Tryz.func18, Tryz.ntmps18
  go_wp2_with fail
  refine (vrefRight_any b 2 n e _).mono ?_
  rintro e w1 ⟨rfl, hb1⟩
  have hs1 : Below w.heap.size w w1 := Below.trans (by repeat (first | exact Below.refl _ _ | refine Below.alloc ?_ (by simp <;> omega) _)) (hb1.mono (by simp <;> omega))
  have c_v_0 : w1.cell? ⟨w.heap.size, 0, none⟩ = some (.int .i64 b) := (hb1.cell (by simp <;> omega)).trans (by go_simp)
  have c_v_1 : w1.cell? ⟨w.heap.size, 1, none⟩ = some (.int .i64 2) := (hb1.cell (by simp <;> omega)).trans (by go_simp)
  have c_v_2 : w1.cell? ⟨w.heap.size, 2, none⟩ = some (.int .i64 n) := (hb1.cell (by simp <;> omega)).trans (by go_simp)
  have c_v_3 : w1.cell? ⟨w.heap.size, 3, none⟩ = some (.int .i64 e) := (hb1.cell (by simp <;> omega)).trans (by go_simp)
  have z_v := World.block_lt_of_cell? _ _ c_v_0
  have hB1 := below_two hB0 hs1
  clear hB0 hs1 hb1
  rw [h]
  go_wp2_with fail
  refine (HP.out _).mono ?_
  rintro e wx ⟨rfl, rfl⟩
  go_wp2_with fail
  refine (HX.out _).mono ?_
  rintro e w2 ⟨rfl, hb2⟩
  have hs2 := hb2
  replace c_v_0 := cell_later hs2 c_v_0
  replace c_v_1 := cell_later hs2 c_v_1
  replace c_v_2 := cell_later hs2 c_v_2
  replace c_v_3 := cell_later hs2 c_v_3
  clear z_v
  have z_v := World.block_lt_of_cell? _ _ c_v_0
  have hB2 := below_two hB1 hs2
  clear hB1 hs2
  go_wp2
  refine wp_loop_rounds 3 ?_
  rw [rounds_succ]
  go_wp2
  rw [rounds_succ]
  go_wp2
  rw [rounds_succ]
  go_wp2_with fail
  go_wp2_with fail
  have QB : Hid (∀ dd os, Below w.heap.size w (Go.Sort.grow (redrawn w2 dd) os)) := Lib.hid (fun dd os => below_two hB2 (below_regrown w2 dd os))
  have g_c_v_0 := fun dd os => cell_regrown c_v_0 dd os
  have g_c_v_1 := fun dd os => cell_regrown c_v_1 dd os
  have g_c_v_2 := fun dd os => cell_regrown c_v_2 dd os
  have g_c_v_3 := fun dd os => cell_regrown c_v_3 dd os
  have q0 : Hid (∀ dd os m, Rat.I64 m → Calls Tryz.prog 45 #[.int .i64 m] (Go.Sort.grow (redrawn w2 dd) os) fun e w'' => e = .returned (.string ⟨(Lib.itoa m).toArray⟩) ∧ ∃ p : Regrown, w'' = Go.Sort.grow (redrawn w2 p.d) p.os) := Lib.hid (fun dd os m hm => Calls.regrown_of (number_any m _ hm))
  refine wp_region_quiet_below (by kernel_rfl) (by kernel_rfl) ?_
  repeat (quiet_step (first | (go_at_call 45; refine q0.out _ _ _ ?_; first | exact in1 | exact in2)))
  refine wpQuiet_nil ?_
  intro _ hw'
  obtain ⟨⟨dq, osq⟩, hw''⟩ := hw'
  subst hw''
  replace c_v_0 := g_c_v_0 dq osq
  clear g_c_v_0
  replace c_v_1 := g_c_v_1 dq osq
  clear g_c_v_1
  replace c_v_2 := g_c_v_2 dq osq
  clear g_c_v_2
  replace c_v_3 := g_c_v_3 dq osq
  clear g_c_v_3
  clear q0
  have hB3 := QB.out dq osq
  clear QB hB2 z_v
  generalize Go.Sort.grow (redrawn w2 dq) osq = w3 at *
  have z_v := World.block_lt_of_cell? _ _ c_v_0
  go_wp2
  go_ret2
  exact ⟨rfl, hB3⟩

theorem vrefText_any (b d n e : Int) (w : World) :
    Calls Tryz.prog 18 #[vl b d n e] w fun ed w' => ed = .returned (.tuple #[.string ⟨(Val.txtE b d n e).toArray⟩, .int .i64 (Val.lenE b d n e)]) ∧ Below w.heap.size w w' := by
  unfold Val.txtE Val.lenE
  cases h : Val.ok b d n e
  · exact vrefText_no b d n e w h
  · obtain ⟨b0, b6, d0, d2, hk⟩ := (Val.ok_iff _ _ _ _).1 h
    have hb := Val.bt_bounds b0 b6
    have i0 : Rat.I64 (Val.bt b) := by unfold Rat.I64; omega
    have hx : (Lib.itoa (Val.bt b)).length ≤ 50 := itoa_short _ i0
    have HP : Hid (∀ w, Calls Tryz.prog 39 #[.int .i64 b] w fun ed w' => ed = .returned (.int .i64 (Val.bt b)) ∧ w = w') := Lib.hid (fun w => power_any b0 b6 w)
    have HX : Hid (∀ w, Calls Tryz.prog 45 #[.int .i64 (Val.bt b)] w fun ed w' => ed = .returned (.string ⟨(Lib.itoa (Val.bt b)).toArray⟩) ∧ Below w.heap.size w w') := Lib.hid (fun w => number_any _ w i0)
    have in1 : Rat.I64 n := by unfold Rat.I64; omega
    have in2 : Rat.I64 e := by unfold Rat.I64; omega
    have l1 := itoa_short n in1
    have l2 := itoa_short e in2
    unfold Val.txt Val.frB Val.tuB
    by_cases hn : n = 0
    · have hq : ¬ 0 < n := by omega
      rw [if_pos hn, List.append_nil]
      obtain rfl | rfl | rfl : d = 0 ∨ d = 1 ∨ d = 2 := by omega
      · have := vrefText_plain0 b n e w h _ _ hx HP HX hq
        simpa using this
      · have := vrefText_plain1 b n e w h _ _ hx HP HX hq _ (Lib.hid rfl)
        simpa [List.replicate] using this
      · have := vrefText_plain2 b n e w h _ _ hx HP HX hq _ (Lib.hid rfl) _ (Lib.hid rfl)
        simpa [List.replicate] using this
    · have hq : 0 < n := by omega
      rw [if_neg hn]
      obtain rfl | rfl | rfl : d = 0 ∨ d = 1 ∨ d = 2 := by omega
      · have := vrefText_tuplet0 b n e w h _ _ hx HP HX hq l1 l2 in1 in2 _ (Lib.hid rfl) _ (Lib.hid rfl) _ (Lib.hid rfl) _ (Lib.hid rfl)
        simpa using this
      · have := vrefText_tuplet1 b n e w h _ _ hx HP HX hq l1 l2 in1 in2 _ (Lib.hid rfl) _ (Lib.hid rfl) _ (Lib.hid rfl) _ (Lib.hid rfl) _ (Lib.hid rfl)
        simpa [List.replicate] using this
      · have := vrefText_tuplet2 b n e w h _ _ hx HP HX hq l1 l2 in1 in2 _ (Lib.hid rfl) _ (Lib.hid rfl) _ (Lib.hid rfl) _ (Lib.hid rfl) _ (Lib.hid rfl) _ (Lib.hid rfl)
        simpa [List.replicate] using this
end Go.Proofs.YtejiifkenanodaaGreatDoor
