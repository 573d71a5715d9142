/-
  The contract of value.Text.
-/
import Derived.Test.YtejiifkenanodaaGreatDoorValG
namespace Go.Proofs.YtejiifkenanodaaGreatDoor
open Go.RowKit

set_option maxRecDepth 100000 in
set_option maxHeartbeats 4000000 in
theorem vtext_no (b d n e : Int) (w : World) (h : Val.ok b d n e = false) :
    Calls Tryz.prog 17 #[vl b d n e] w fun ed w' => ed = .returned (.tuple #[.string ⟨#[]⟩, .int .i64 40]) ∧ Below w.heap.size w w' := by
  have hB0 : Below w.heap.size w w := Below.refl _ _
  go_enter Tryz.func17, Tryz.ntmps17
  go_wp2_with fail
  refine (vright_any b d n e _).mono ?_
  rintro e w1 ⟨rfl, hb1⟩
  have hs1 : Below w.heap.size w w1 := Below.trans (by repeat (first | exact Below.refl _ _ | refine Below.alloc ?_ (by simp <;> omega) _)) (hb1.mono (by simp <;> omega))
  have c_v_0 : w1.cell? ⟨w.heap.size, 0, none⟩ = some (.int .i64 b) := (hb1.cell (by simp <;> omega)).trans (by go_simp)
  have c_v_1 : w1.cell? ⟨w.heap.size, 1, none⟩ = some (.int .i64 d) := (hb1.cell (by simp <;> omega)).trans (by go_simp)
  have c_v_2 : w1.cell? ⟨w.heap.size, 2, none⟩ = some (.int .i64 n) := (hb1.cell (by simp <;> omega)).trans (by go_simp)
  have c_v_3 : w1.cell? ⟨w.heap.size, 3, none⟩ = some (.int .i64 e) := (hb1.cell (by simp <;> omega)).trans (by go_simp)
  have z_v := World.block_lt_of_cell? _ _ c_v_0
  have hB1 := below_two hB0 hs1
  clear hB0 hs1 hb1
  rw [h]
  go_wp2
  go_ret2
  exact ⟨rfl, hB1⟩

set_option maxRecDepth 100000 in
set_option maxHeartbeats 4000000 in
theorem vtext_plain (b d n e : Int) (w : World) (hR : Vars w) (h : Val.ok b d n e = true) (x y : List UInt8) (lx : x.length ≤ 50) (ly : y.length ≤ 50) (HX : Hid (∀ w, Vars w → Calls Tryz.prog 41 #[.int .i64 b] w fun ed w' => ed = .returned (.string ⟨x.toArray⟩) ∧ Below w.heap.size w w')) (HY : Hid (∀ w, Calls Tryz.prog 42 #[.string ⟨#[46]⟩, .int .i64 d] w fun ed w' => ed = .returned (.string ⟨y.toArray⟩) ∧ Below w.heap.size w w')) (hn : (n == 0) = true) :
    Calls Tryz.prog 17 #[vl b d n e] w fun ed w' => ed = .returned (.tuple #[.string ⟨(x ++ y).toArray⟩, .int .i64 0]) ∧ Below w.heap.size w w' := by
  have a1 : ∀ w : World, (Op.stringOp .add ⟨x.toArray⟩ ⟨y.toArray⟩).run Tryz.prog w = .ok (.string ⟨(x ++ y).toArray⟩) w := fun w => run_string_add_lists w x y (by omega) (by omega)
  have hB0 : Below w.heap.size w w := Below.refl _ _
  go_enter Tryz.func17, Tryz.ntmps17
  go_wp2_with fail
  have hR' := hR.below (hB0.alloc hB0.size (.cells #[.int .i64 b, .int .i64 d, .int .i64 n, .int .i64 e] 23))
  refine (vright_any b d n e _).mono ?_
  rintro e w1 ⟨rfl, hb1⟩
  clear hR'
  have hs1 : Below w.heap.size w w1 := Below.trans (by repeat (first | exact Below.refl _ _ | refine Below.alloc ?_ (by simp <;> omega) _)) (hb1.mono (by simp <;> omega))
  have c_v_0 : w1.cell? ⟨w.heap.size, 0, none⟩ = some (.int .i64 b) := (hb1.cell (by simp <;> omega)).trans (by go_simp)
  have c_v_1 : w1.cell? ⟨w.heap.size, 1, none⟩ = some (.int .i64 d) := (hb1.cell (by simp <;> omega)).trans (by go_simp)
  have c_v_2 : w1.cell? ⟨w.heap.size, 2, none⟩ = some (.int .i64 n) := (hb1.cell (by simp <;> omega)).trans (by go_simp)
  have c_v_3 : w1.cell? ⟨w.heap.size, 3, none⟩ = some (.int .i64 e) := (hb1.cell (by simp <;> omega)).trans (by go_simp)
  have z_v := World.block_lt_of_cell? _ _ c_v_0
  have hB1 := below_two hB0 hs1
  clear hB0 hs1 hb1
  rw [h]
  go_wp2_with fail
  have QB : Hid (∀ dd os, Below w.heap.size w (Go.Sort.grow (redrawn w1 dd) os)) := Lib.hid (fun dd os => below_two hB1 (below_regrown w1 dd os))
  have g_c_v_0 := fun dd os => cell_regrown c_v_0 dd os
  have g_c_v_1 := fun dd os => cell_regrown c_v_1 dd os
  have g_c_v_2 := fun dd os => cell_regrown c_v_2 dd os
  have g_c_v_3 := fun dd os => cell_regrown c_v_3 dd os
  have q0 : Hid (∀ dd os, Calls Tryz.prog 41 #[.int .i64 b] (Go.Sort.grow (redrawn w1 dd) os) fun e w'' => e = .returned (.string ⟨x.toArray⟩) ∧ ∃ p : Regrown, w'' = Go.Sort.grow (redrawn w1 p.d) p.os) := Lib.hid (fun dd os => Calls.regrown_of (HX.out (Go.Sort.grow (redrawn w1 dd) os) (hR.below (QB.out dd os))))
  have q1 : Hid (∀ dd os, Calls Tryz.prog 42 #[.string ⟨#[46]⟩, .int .i64 d] (Go.Sort.grow (redrawn w1 dd) os) fun e w'' => e = .returned (.string ⟨y.toArray⟩) ∧ ∃ p : Regrown, w'' = Go.Sort.grow (redrawn w1 p.d) p.os) := Lib.hid (fun dd os => Calls.regrown_of (HY.out (Go.Sort.grow (redrawn w1 dd) os)))
  refine wp_region_quiet_below (by kernel_rfl) (by kernel_rfl) ?_
  repeat (quiet_step (first | (go_at_call 41; exact q0.out _ _) | (go_at_call 42; exact q1.out _ _)))
  refine wpQuiet_nil ?_
  intro _ hw'
  obtain ⟨⟨dq, osq⟩, hw''⟩ := hw'
  subst hw''
  replace c_v_0 := g_c_v_0 dq osq
  clear g_c_v_0
  replace c_v_1 := g_c_v_1 dq osq
  clear g_c_v_1
  replace c_v_2 := g_c_v_2 dq osq
  clear g_c_v_2
  replace c_v_3 := g_c_v_3 dq osq
  clear g_c_v_3
  clear q0
  clear q1
  have hB2 := QB.out dq osq
  clear QB hB1 z_v
  generalize Go.Sort.grow (redrawn w1 dq) osq = w2 at *
  have z_v := World.block_lt_of_cell? _ _ c_v_0
  go_wp2_with fail
  have hR' := hR.below hB2
  refine (plain_any b d n e _).mono ?_
  rintro e w3 ⟨rfl, hb3⟩
  clear hR'
  have hs3 := hb3
  replace c_v_0 := cell_later hs3 c_v_0
  replace c_v_1 := cell_later hs3 c_v_1
  replace c_v_2 := cell_later hs3 c_v_2
  replace c_v_3 := cell_later hs3 c_v_3
  clear z_v
  have z_v := World.block_lt_of_cell? _ _ c_v_0
  have hB3 := below_two hB2 hs3
  clear hB2 hs3
  rw [hn]
  go_wp2
  go_ret2
  exact ⟨rfl, hB3⟩

set_option maxRecDepth 100000 in
set_option maxHeartbeats 4000000 in
theorem vtext_tuplet (b d n e : Int) (w : World) (hR : Vars w) (h : Val.ok b d n e = true) (x y : List UInt8) (lx : x.length ≤ 50) (ly : y.length ≤ 50) (HX : Hid (∀ w, Vars w → Calls Tryz.prog 41 #[.int .i64 b] w fun ed w' => ed = .returned (.string ⟨x.toArray⟩) ∧ Below w.heap.size w w')) (HY : Hid (∀ w, Calls Tryz.prog 42 #[.string ⟨#[46]⟩, .int .i64 d] w fun ed w' => ed = .returned (.string ⟨y.toArray⟩) ∧ Below w.heap.size w w')) (hn : (n == 0) = false) (lp : (Lib.itoa n).length ≤ 50) (lq : (Lib.itoa e).length ≤ 50) (in1 : Rat.I64 n) (in2 : Rat.I64 e) :
    Calls Tryz.prog 17 #[vl b d n e] w fun ed w' => ed = .returned (.tuple #[.string ⟨(x ++ y ++ 42 :: (Lib.itoa n ++ 58 :: Lib.itoa e)).toArray⟩, .int .i64 0]) ∧ Below w.heap.size w w' := by
  have a1 : ∀ w : World, (Op.stringOp .add ⟨x.toArray⟩ ⟨y.toArray⟩).run Tryz.prog w = .ok (.string ⟨(x ++ y).toArray⟩) w := fun w => run_string_add_lists w x y (by omega) (by omega)
  have a2 : ∀ w : World, (Op.stringOp .add ⟨#[42]⟩ ⟨(Lib.itoa n).toArray⟩).run Tryz.prog w = .ok (.string ⟨(42 :: Lib.itoa n).toArray⟩) w := fun w => run_string_add_lists w [42] (Lib.itoa n) (by simp) (by omega)
  have a3 : ∀ w : World, (Op.stringOp .add ⟨(42 :: Lib.itoa n).toArray⟩ ⟨#[58]⟩).run Tryz.prog w = .ok (.string ⟨(42 :: (Lib.itoa n ++ [58])).toArray⟩) w := fun w => run_string_add_lists w (42 :: Lib.itoa n) [58] (by simp; omega) (by simp)
  have a4 : ∀ w : World, (Op.stringOp .add ⟨(42 :: (Lib.itoa n ++ [58])).toArray⟩ ⟨(Lib.itoa e).toArray⟩).run Tryz.prog w = .ok (.string ⟨(42 :: (Lib.itoa n ++ 58 :: Lib.itoa e)).toArray⟩) w := fun w => by have := run_string_add_lists (P := Tryz.prog) w (42 :: (Lib.itoa n ++ [58])) (Lib.itoa e) (by simp; omega) (by omega); simpa using this
  have a5 : ∀ w : World, (Op.stringOp .add ⟨(x ++ y).toArray⟩ ⟨(42 :: (Lib.itoa n ++ 58 :: Lib.itoa e)).toArray⟩).run Tryz.prog w = .ok (.string ⟨(x ++ y ++ 42 :: (Lib.itoa n ++ 58 :: Lib.itoa e)).toArray⟩) w := fun w => run_string_add_lists w (x ++ y) (42 :: (Lib.itoa n ++ 58 :: Lib.itoa e)) (by simp; omega) (by simp; omega)
  have hB0 : Below w.heap.size w w := Below.refl _ _
  go_enter Tryz.func17, Tryz.ntmps17
  go_wp2_with fail
  have hR' := hR.below (hB0.alloc hB0.size (.cells #[.int .i64 b, .int .i64 d, .int .i64 n, .int .i64 e] 23))
  refine (vright_any b d n e _).mono ?_
  rintro e w1 ⟨rfl, hb1⟩
  clear hR'
  have hs1 : Below w.heap.size w w1 := Below.trans (by repeat (first | exact Below.refl _ _ | refine Below.alloc ?_ (by simp <;> omega) _)) (hb1.mono (by simp <;> omega))
  have c_v_0 : w1.cell? ⟨w.heap.size, 0, none⟩ = some (.int .i64 b) := (hb1.cell (by simp <;> omega)).trans (by go_simp)
  have c_v_1 : w1.cell? ⟨w.heap.size, 1, none⟩ = some (.int .i64 d) := (hb1.cell (by simp <;> omega)).trans (by go_simp)
  have c_v_2 : w1.cell? ⟨w.heap.size, 2, none⟩ = some (.int .i64 n) := (hb1.cell (by simp <;> omega)).trans (by go_simp)
  have c_v_3 : w1.cell? ⟨w.heap.size, 3, none⟩ = some (.int .i64 e) := (hb1.cell (by simp <;> omega)).trans (by go_simp)
  have z_v := World.block_lt_of_cell? _ _ c_v_0
  have hB1 := below_two hB0 hs1
  clear hB0 hs1 hb1
  rw [h]
  go_wp2_with fail
  have QB : Hid (∀ dd os, Below w.heap.size w (Go.Sort.grow (redrawn w1 dd) os)) := Lib.hid (fun dd os => below_two hB1 (below_regrown w1 dd os))
  have g_c_v_0 := fun dd os => cell_regrown c_v_0 dd os
  have g_c_v_1 := fun dd os => cell_regrown c_v_1 dd os
  have g_c_v_2 := fun dd os => cell_regrown c_v_2 dd os
  have g_c_v_3 := fun dd os => cell_regrown c_v_3 dd os
  have q0 : Hid (∀ dd os, Calls Tryz.prog 41 #[.int .i64 b] (Go.Sort.grow (redrawn w1 dd) os) fun e w'' => e = .returned (.string ⟨x.toArray⟩) ∧ ∃ p : Regrown, w'' = Go.Sort.grow (redrawn w1 p.d) p.os) := Lib.hid (fun dd os => Calls.regrown_of (HX.out (Go.Sort.grow (redrawn w1 dd) os) (hR.below (QB.out dd os))))
  have q1 : Hid (∀ dd os, Calls Tryz.prog 42 #[.string ⟨#[46]⟩, .int .i64 d] (Go.Sort.grow (redrawn w1 dd) os) fun e w'' => e = .returned (.string ⟨y.toArray⟩) ∧ ∃ p : Regrown, w'' = Go.Sort.grow (redrawn w1 p.d) p.os) := Lib.hid (fun dd os => Calls.regrown_of (HY.out (Go.Sort.grow (redrawn w1 dd) os)))
  refine wp_region_quiet_below (by kernel_rfl) (by kernel_rfl) ?_
  repeat (quiet_step (first | (go_at_call 41; exact q0.out _ _) | (go_at_call 42; exact q1.out _ _)))
  refine wpQuiet_nil ?_
  intro _ hw'
  obtain ⟨⟨dq, osq⟩, hw''⟩ := hw'
  subst hw''
  replace c_v_0 := g_c_v_0 dq osq
  clear g_c_v_0
  replace c_v_1 := g_c_v_1 dq osq
  clear g_c_v_1
  replace c_v_2 := g_c_v_2 dq osq
  clear g_c_v_2
  replace c_v_3 := g_c_v_3 dq osq
  clear g_c_v_3
  clear q0
  clear q1
  have hB2 := QB.out dq osq
  clear QB hB1 z_v
  generalize Go.Sort.grow (redrawn w1 dq) osq = w2 at *
  have z_v := World.block_lt_of_cell? _ _ c_v_0
  go_wp2_with fail
  have hR' := hR.below hB2
  refine (plain_any b d n e _).mono ?_
  rintro e w3 ⟨rfl, hb3⟩
  clear hR'
  have hs3 := hb3
  replace c_v_0 := cell_later hs3 c_v_0
  replace c_v_1 := cell_later hs3 c_v_1
  replace c_v_2 := cell_later hs3 c_v_2
  replace c_v_3 := cell_later hs3 c_v_3
  clear z_v
  have z_v := World.block_lt_of_cell? _ _ c_v_0
  have hB3 := below_two hB2 hs3
  clear hB2 hs3
  rw [hn]
  go_wp2_with fail
  have QB : Hid (∀ dd os, Below w.heap.size w (Go.Sort.grow (redrawn w3 dd) os)) := Lib.hid (fun dd os => below_two hB3 (below_regrown w3 dd os))
  have g_c_v_0 := fun dd os => cell_regrown c_v_0 dd os
  have g_c_v_1 := fun dd os => cell_regrown c_v_1 dd os
  have g_c_v_2 := fun dd os => cell_regrown c_v_2 dd os
  have g_c_v_3 := fun dd os => cell_regrown c_v_3 dd os
  have q0 : Hid (∀ dd os m, Rat.I64 m → Calls Tryz.prog 44 #[.int .i64 m] (Go.Sort.grow (redrawn w3 dd) os) fun e w'' => e = .returned (.string ⟨(Lib.itoa m).toArray⟩) ∧ ∃ p : Regrown, w'' = Go.Sort.grow (redrawn w3 p.d) p.os) := Lib.hid (fun dd os m hm => Calls.regrown_of (itoa_call m _ hm (hR.below (QB.out dd os)).lib))
  refine wp_region_quiet_below (by kernel_rfl) (by kernel_rfl) ?_
  repeat (quiet_step (first | (go_at_call 44; refine q0.out _ _ _ ?_; first | exact in1 | exact in2)))
  refine wpQuiet_nil ?_
  intro _ hw'
  obtain ⟨⟨dq, osq⟩, hw''⟩ := hw'
  subst hw''
  replace c_v_0 := g_c_v_0 dq osq
  clear g_c_v_0
  replace c_v_1 := g_c_v_1 dq osq
  clear g_c_v_1
  replace c_v_2 := g_c_v_2 dq osq
  clear g_c_v_2
  replace c_v_3 := g_c_v_3 dq osq
  clear g_c_v_3
  clear q0
  have hB4 := QB.out dq osq
  clear QB hB3 z_v
  generalize Go.Sort.grow (redrawn w3 dq) osq = w4 at *
  have z_v := World.block_lt_of_cell? _ _ c_v_0
  go_wp2
  go_ret2
  exact ⟨rfl, hB4⟩

theorem itoa_short (n : Int) (hn : Rat.I64 n) : (Lib.itoa n).length ≤ 50 := by have := Lib.itoa_length_le n hn.1 hn.2; omega
theorem vtext_any (b d n e : Int) (w : World) (hR : Vars w) :
    Calls Tryz.prog 17 #[vl b d n e] w fun ed w' => ed = .returned (.tuple #[.string ⟨(Val.txtE b d n e).toArray⟩, .int .i64 (Val.lenE b d n e)]) ∧ Below w.heap.size w w' := by
  unfold Val.txtE Val.lenE
  cases h : Val.ok b d n e
  · exact vtext_no b d n e w h
  · obtain ⟨b0, b6, d0, d2, hk⟩ := (Val.ok_iff _ _ _ _).1 h
    have hb := Val.bt_bounds b0 b6
    have hx : (Lib.itoa (Val.bt b)).length ≤ 50 := itoa_short _ (by unfold Rat.I64; omega)
    have hy : (List.replicate d.toNat (46 : UInt8)).length ≤ 50 := by simp; omega
    have HX : Hid (∀ w, Vars w → Calls Tryz.prog 41 #[.int .i64 b] w fun ed w' => ed = .returned (.string ⟨(Lib.itoa (Val.bt b)).toArray⟩) ∧ Below w.heap.size w w') := Lib.hid (fun w hR => baseText_any b0 b6 w hR)
    have HY : Hid (∀ w, Calls Tryz.prog 42 #[.string ⟨#[46]⟩, .int .i64 d] w fun ed w' => ed = .returned (.string ⟨(List.replicate d.toNat 46).toArray⟩) ∧ Below w.heap.size w w') := Lib.hid (fun w => repeat_call d0 d2 w)
    have in1 : Rat.I64 n := by unfold Rat.I64; omega
    have in2 : Rat.I64 e := by unfold Rat.I64; omega
    unfold Val.txt Val.frB Val.tuB
    by_cases hn : n = 0
    · rw [if_pos hn, List.append_nil]
      exact vtext_plain b d n e w hR h _ _ hx hy HX HY (by simpa using hn)
    · rw [if_neg hn]
      exact vtext_tuplet b d n e w hR h _ _ hx hy HX HY (by simpa using hn) (itoa_short n in1) (itoa_short e in2) in1 in2
end Go.Proofs.YtejiifkenanodaaGreatDoor
