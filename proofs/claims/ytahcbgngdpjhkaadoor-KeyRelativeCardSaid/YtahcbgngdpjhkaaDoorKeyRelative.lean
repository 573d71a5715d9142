/-
  KeyRelative holds: the law's walk.
-/
import Derived.Test.YtahcbgngdpjhkaaDoorKeyL
import Derived.Test.YtahcbgngdpjhkaaDoorKeyRow
namespace Go.Proofs.YtahcbgngdpjhkaaDoor
open Go.RowKit

set_option maxRecDepth 100000 in
set_option maxHeartbeats 4000000 in
theorem relative_no (f s : Int) (w : World) (hR : Lett w) (ho : Key.okF f = false) :
    Calls Tryd.prog 14 #[.int .i64 f, .int .i64 s] w fun e w' => e = .returned (.bool true) ∧ Below w.heap.size w w' := by
  have hgP := guardP
  have hgK := guardK
  have heP := eql_pt
  have heK := eql_ky
  have hnP := neq_pt
  have hnK := neq_ky
  have hsP := eqP_self
  have hsK := eqK_self
  have hB0 : Below w.heap.size w w := Below.refl _ _
  go_enter Tryd.func14, Tryd.ntmps14
  go_wp2_with fail
  have hR' := hR.below hB0
  refine (awake_any _ hR').mono ?_
  rintro e w1 ⟨rfl, hb1⟩
  clear hR'
  have hs1 := hb1
  have hB1 := below_two hB0 hs1
  clear hB0 hs1
  go_wp2_with fail
  have hR' := hR.below ((hB1.alloc hB1.size (.cells #[.int .i64 f, .bool false] 23)).alloc (hB1.alloc hB1.size (.cells #[.int .i64 f, .bool false] 23)).size (.cells #[.int .i64 f, .bool true] 23))
  refine (alter_any f false s _).mono ?_
  rintro e w2 ⟨rfl, hb2⟩
  clear hR'
  have hs2 : Below w1.heap.size w1 w2 := Below.trans (by repeat (first | exact Below.refl _ _ | refine Below.alloc ?_ (by simp <;> omega) _)) (hb2.mono (by simp <;> omega))
  have c_a_0 : w2.cell? ⟨w1.heap.size, 0, none⟩ = some (.int .i64 f) := (hb2.cell (by simp <;> omega)).trans (by go_simp)
  have c_a_1 : w2.cell? ⟨w1.heap.size, 1, none⟩ = some (.bool false) := (hb2.cell (by simp <;> omega)).trans (by go_simp)
  have c_b_0 : w2.cell? ⟨w1.heap.size + 1, 0, none⟩ = some (.int .i64 f) := (hb2.cell (by simp <;> omega)).trans (by go_simp)
  have c_b_1 : w2.cell? ⟨w1.heap.size + 1, 1, none⟩ = some (.bool true) := (hb2.cell (by simp <;> omega)).trans (by go_simp)
  have z_a := World.block_lt_of_cell? _ _ c_a_0
  have z_b := World.block_lt_of_cell? _ _ c_b_0
  have hB2 := below_two hB1 hs2
  clear hB1 hs2 hb2
  go_wp2_with fail
  have hR' := hR.below hB2
  refine (alter_any f true s _).mono ?_
  rintro e w3 ⟨rfl, hb3⟩
  clear hR'
  have hs3 := hb3
  replace c_a_0 := cell_later hs3 c_a_0
  replace c_a_1 := cell_later hs3 c_a_1
  replace c_b_0 := cell_later hs3 c_b_0
  replace c_b_1 := cell_later hs3 c_b_1
  clear z_a
  have z_a := World.block_lt_of_cell? _ _ c_a_0
  clear z_b
  have z_b := World.block_lt_of_cell? _ _ c_b_0
  have hB3 := below_two hB2 hs3
  clear hB2 hs3
  go_wp2_with fail
  have hR' := hR.below hB3
  refine (scale_no f false _ ho).mono ?_
  rintro e w4 ⟨rfl, hb4⟩
  clear hR'
  have hs4 := hb4
  replace c_a_0 := cell_later hs4 c_a_0
  replace c_a_1 := cell_later hs4 c_a_1
  replace c_b_0 := cell_later hs4 c_b_0
  replace c_b_1 := cell_later hs4 c_b_1
  clear z_a
  have z_a := World.block_lt_of_cell? _ _ c_a_0
  clear z_b
  have z_b := World.block_lt_of_cell? _ _ c_b_0
  have hB4 := below_two hB3 hs4
  clear hB3 hs4
  go_wp2_with fail
  have hR' := hR.below hB4
  refine (scale_no f true _ ho).mono ?_
  rintro e w5 ⟨rfl, hb5⟩
  clear hR'
  have hs5 := hb5
  replace c_a_0 := cell_later hs5 c_a_0
  replace c_a_1 := cell_later hs5 c_a_1
  replace c_b_0 := cell_later hs5 c_b_0
  replace c_b_1 := cell_later hs5 c_b_1
  clear z_a
  have z_a := World.block_lt_of_cell? _ _ c_a_0
  clear z_b
  have z_b := World.block_lt_of_cell? _ _ c_b_0
  have hB5 := below_two hB4 hs5
  clear hB4 hs5
  go_wp2
  go_ret
  exact ⟨rfl, hB5⟩

set_option maxRecDepth 100000 in
set_option maxHeartbeats 4000000 in
theorem relative_yes (f s : Int) (w : World) (hR : Lett w) (h0 : -7 ≤ f) (h7 : f ≤ 7) (x y z z1 : Int) (HL : Hid (scP f false 5 = (x, y, z))) (HS : Hid (scP f true 0 = (x, y, z1))) :
    Calls Tryd.prog 14 #[.int .i64 f, .int .i64 s] w fun e w' => e = .returned (.bool true) ∧ Below w.heap.size w w' := by
  have hgP := guardP
  have hgK := guardK
  have heP := eql_pt
  have heK := eql_ky
  have hnP := neq_pt
  have hnK := neq_ky
  have hsP := eqP_self
  have hsK := eqK_self
  have hB0 : Below w.heap.size w w := Below.refl _ _
  go_enter Tryd.func14, Tryd.ntmps14
  go_wp2_with fail
  have hR' := hR.below hB0
  refine (awake_any _ hR').mono ?_
  rintro e w1 ⟨rfl, hb1⟩
  clear hR'
  have hs1 := hb1
  have hB1 := below_two hB0 hs1
  clear hB0 hs1
  go_wp2_with fail
  have hR' := hR.below ((hB1.alloc hB1.size (.cells #[.int .i64 f, .bool false] 23)).alloc (hB1.alloc hB1.size (.cells #[.int .i64 f, .bool false] 23)).size (.cells #[.int .i64 f, .bool true] 23))
  refine (alter_any f false s _).mono ?_
  rintro e w2 ⟨rfl, hb2⟩
  clear hR'
  have hs2 : Below w1.heap.size w1 w2 := Below.trans (by repeat (first | exact Below.refl _ _ | refine Below.alloc ?_ (by simp <;> omega) _)) (hb2.mono (by simp <;> omega))
  have c_a_0 : w2.cell? ⟨w1.heap.size, 0, none⟩ = some (.int .i64 f) := (hb2.cell (by simp <;> omega)).trans (by go_simp)
  have c_a_1 : w2.cell? ⟨w1.heap.size, 1, none⟩ = some (.bool false) := (hb2.cell (by simp <;> omega)).trans (by go_simp)
  have c_b_0 : w2.cell? ⟨w1.heap.size + 1, 0, none⟩ = some (.int .i64 f) := (hb2.cell (by simp <;> omega)).trans (by go_simp)
  have c_b_1 : w2.cell? ⟨w1.heap.size + 1, 1, none⟩ = some (.bool true) := (hb2.cell (by simp <;> omega)).trans (by go_simp)
  have z_a := World.block_lt_of_cell? _ _ c_a_0
  have z_b := World.block_lt_of_cell? _ _ c_b_0
  have hB2 := below_two hB1 hs2
  clear hB1 hs2 hb2
  go_wp2_with fail
  have hR' := hR.below hB2
  refine (alter_any f true s _).mono ?_
  rintro e w3 ⟨rfl, hb3⟩
  clear hR'
  have hs3 := hb3
  replace c_a_0 := cell_later hs3 c_a_0
  replace c_a_1 := cell_later hs3 c_a_1
  replace c_b_0 := cell_later hs3 c_b_0
  replace c_b_1 := cell_later hs3 c_b_1
  clear z_a
  have z_a := World.block_lt_of_cell? _ _ c_a_0
  clear z_b
  have z_b := World.block_lt_of_cell? _ _ c_b_0
  have hB3 := below_two hB2 hs3
  clear hB2 hs3
  go_wp2_with fail
  have hR' := hR.below hB3
  refine (scale_yes f false _ h0 h7).mono ?_
  rintro e w4 ⟨⟨v1, rfl, gl, capl, rfl, hc⟩, hb4⟩
  clear hR'
  have hs4 := hb4
  replace c_a_0 := cell_later hs4 c_a_0
  replace c_a_1 := cell_later hs4 c_a_1
  replace c_b_0 := cell_later hs4 c_b_0
  replace c_b_1 := cell_later hs4 c_b_1
  clear z_a
  have z_a := World.block_lt_of_cell? _ _ c_a_0
  clear z_b
  have z_b := World.block_lt_of_cell? _ _ c_b_0
  have hB4 := below_two hB3 hs4
  clear hB3 hs4
  have c_l_0 : w4.cell? ⟨gl, 15, none⟩ = some (.int .i64 x) := (hc 5 (by decide)).1.trans (by rw [HL.out])
  have c_l_1 : w4.cell? ⟨gl, 16, none⟩ = some (.int .i64 y) := (hc 5 (by decide)).2.1.trans (by rw [HL.out])
  clear hc
  go_wp2_with fail
  have hR' := hR.below hB4
  refine (scale_yes f true _ h0 h7).mono ?_
  rintro e w5 ⟨⟨v2, rfl, gs, caps, rfl, hc⟩, hb5⟩
  clear hR'
  have hs5 := hb5
  replace c_a_0 := cell_later hs5 c_a_0
  replace c_a_1 := cell_later hs5 c_a_1
  replace c_b_0 := cell_later hs5 c_b_0
  replace c_b_1 := cell_later hs5 c_b_1
  replace c_l_0 := cell_later hs5 c_l_0
  replace c_l_1 := cell_later hs5 c_l_1
  clear z_a
  have z_a := World.block_lt_of_cell? _ _ c_a_0
  clear z_b
  have z_b := World.block_lt_of_cell? _ _ c_b_0
  have z_l := World.block_lt_of_cell? _ _ c_l_0
  have hB5 := below_two hB4 hs5
  clear hB4 hs5
  have c_s_0 : w5.cell? ⟨gs, 0, none⟩ = some (.int .i64 x) := (hc 0 (by decide)).1.trans (by rw [HS.out])
  have c_s_1 : w5.cell? ⟨gs, 1, none⟩ = some (.int .i64 y) := (hc 0 (by decide)).2.1.trans (by rw [HS.out])
  clear hc
  go_wp2_with fail
  have QB : Hid (∀ d os, Below w.heap.size w (Go.Sort.grow (redrawn w5 d) os)) := Lib.hid (fun d os => below_two hB5 (below_regrown w5 d os))
  have g_c_a_0 := fun d os => cell_regrown c_a_0 d os
  have g_c_a_1 := fun d os => cell_regrown c_a_1 d os
  have g_c_b_0 := fun d os => cell_regrown c_b_0 d os
  have g_c_b_1 := fun d os => cell_regrown c_b_1 d os
  have g_c_l_0 := fun d os => cell_regrown c_l_0 d os
  have g_c_l_1 := fun d os => cell_regrown c_l_1 d os
  have g_c_s_0 := fun d os => cell_regrown c_s_0 d os
  have g_c_s_1 := fun d os => cell_regrown c_s_1 d os
  refine wp_region_quiet_below (by kernel_rfl) (by kernel_rfl) ?_
  repeat (quiet_step (first | fail))
  refine wpQuiet_nil ?_
  intro _ hw'
  obtain ⟨⟨dq, osq⟩, hw''⟩ := hw'
  subst hw''
  replace c_a_0 := g_c_a_0 dq osq
  clear g_c_a_0
  replace c_a_1 := g_c_a_1 dq osq
  clear g_c_a_1
  replace c_b_0 := g_c_b_0 dq osq
  clear g_c_b_0
  replace c_b_1 := g_c_b_1 dq osq
  clear g_c_b_1
  replace c_l_0 := g_c_l_0 dq osq
  clear g_c_l_0
  replace c_l_1 := g_c_l_1 dq osq
  clear g_c_l_1
  replace c_s_0 := g_c_s_0 dq osq
  clear g_c_s_0
  replace c_s_1 := g_c_s_1 dq osq
  clear g_c_s_1
  have hB6 := QB.out dq osq
  clear QB hB5 z_a z_b z_l
  generalize Go.Sort.grow (redrawn w5 dq) osq = w6 at *
  have z_a := World.block_lt_of_cell? _ _ c_a_0
  have z_b := World.block_lt_of_cell? _ _ c_b_0
  have z_l := World.block_lt_of_cell? _ _ c_l_0
  have z_s := World.block_lt_of_cell? _ _ c_s_0
  go_wp2
  go_ret
  exact ⟨rfl, hB6⟩

theorem keyRelative_calls (f s : Int) (_ : Pit.I64 f) (_ : Pit.I64 s) (w : World) (hR : Lett w) : LawHolds 14 #[.int .i64 f, .int .i64 s] w := by
  cases ho : Key.okF f with
  | true =>
    obtain ⟨h0, h7⟩ := (Key.okF_iff f).1 ho
    obtain ⟨e1, e2⟩ := Key.rel_sc h0 h7
    exact relative_yes f s w hR h0 h7 (Key.scS f false 5) (Key.scA f false 5) _ _ (Lib.hid rfl) (Lib.hid (by show (Key.scS f true 0, Key.scA f true 0, _) = _; rw [e1, e2]))
  | false => exact relative_no f s w hR ho
end Go.Proofs.YtahcbgngdpjhkaaDoor
