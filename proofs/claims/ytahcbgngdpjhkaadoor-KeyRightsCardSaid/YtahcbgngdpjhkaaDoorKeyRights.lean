/-
  KeyRights holds: the law's walk.
-/
import Derived.Test.YtahcbgngdpjhkaaDoorKeyL
import Derived.Test.YtahcbgngdpjhkaaDoorKeyO
import Derived.Test.YtahcbgngdpjhkaaDoorKeyRow
namespace Go.Proofs.YtahcbgngdpjhkaaDoor
open Go.RowKit

set_option maxRecDepth 100000 in
set_option maxHeartbeats 4000000 in
theorem rights (f : Int) (m : Bool) (w : World) (hR : Lett w) :
    Calls Tryd.prog 3 #[ky f m] w fun e w' => e = .returned (.bool true) ∧ Below w.heap.size w w' := by
  have hgP := guardP
  have hgK := guardK
  have heP := eql_pt
  have heK := eql_ky
  have hnP := neq_pt
  have hnK := neq_ky
  have hsP := eqP_self
  have hsK := eqK_self
  have hB0 : Below w.heap.size w w := Below.refl _ _
  go_enter Tryd.func3, Tryd.ntmps3
  go_wp2_with fail
  have hR' := hR.below (hB0.alloc hB0.size (.cells #[.int .i64 f, .bool m] 23))
  refine (awake_any _ hR').mono ?_
  rintro e w1 ⟨rfl, hb1⟩
  clear hR'
  have hs1 : Below w.heap.size w w1 := Below.trans (by repeat (first | exact Below.refl _ _ | refine Below.alloc ?_ (by simp <;> omega) _)) (hb1.mono (by simp <;> omega))
  have c_k_0 : w1.cell? ⟨w.heap.size, 0, none⟩ = some (.int .i64 f) := (hb1.cell (by simp <;> omega)).trans (by go_simp)
  have c_k_1 : w1.cell? ⟨w.heap.size, 1, none⟩ = some (.bool m) := (hb1.cell (by simp <;> omega)).trans (by go_simp)
  have z_k := World.block_lt_of_cell? _ _ c_k_0
  have hB1 := below_two hB0 hs1
  clear hB0 hs1 hb1
  go_wp2_with fail
  have hR' := hR.below hB1
  refine (text_any f m _ hR').mono ?_
  rintro e w2 ⟨rfl, hb2⟩
  clear hR'
  have hs2 := hb2
  replace c_k_0 := cell_later hs2 c_k_0
  replace c_k_1 := cell_later hs2 c_k_1
  clear z_k
  have z_k := World.block_lt_of_cell? _ _ c_k_0
  have hB2 := below_two hB1 hs2
  clear hB1 hs2
  go_wp2_with fail
  have hR' := hR.below hB2
  refine (refText_any f m _).mono ?_
  rintro e w3 ⟨rfl, hb3⟩
  clear hR'
  have hs3 := hb3
  replace c_k_0 := cell_later hs3 c_k_0
  replace c_k_1 := cell_later hs3 c_k_1
  clear z_k
  have z_k := World.block_lt_of_cell? _ _ c_k_0
  have hB3 := below_two hB2 hs3
  clear hB2 hs3
  go_wp2_with fail
  have QB : Hid (∀ d os, Below w.heap.size w (Go.Sort.grow (redrawn w3 d) os)) := Lib.hid (fun d os => below_two hB3 (below_regrown w3 d os))
  have g_c_k_0 := fun d os => cell_regrown c_k_0 d os
  have g_c_k_1 := fun d os => cell_regrown c_k_1 d os
  have q0 : Hid (∀ d os, Calls Tryd.prog 20 #[ky f m] (Go.Sort.grow (redrawn w3 d) os) fun e w'' => e = .returned (.bool (Key.okF f)) ∧ ∃ p : Regrown, w'' = Go.Sort.grow (redrawn w3 p.d) p.os) := Lib.hid (fun d os => Calls.regrown_of (kright_any f m _))
  have q1 : Hid (∀ d os, Calls Tryd.prog 21 #[ky f m] (Go.Sort.grow (redrawn w3 d) os) fun e w'' => e = .returned (.bool (Key.okF f)) ∧ ∃ p : Regrown, w'' = Go.Sort.grow (redrawn w3 p.d) p.os) := Lib.hid (fun d os => Calls.regrown_of (krefRight_any f m _))
  refine wp_region_quiet_below (by kernel_rfl) (by kernel_rfl) ?_
  repeat (quiet_step (first | exact q0.out _ _ | exact q1.out _ _))
  refine wpQuiet_nil ?_
  intro _ hw'
  obtain ⟨⟨dq, osq⟩, hw''⟩ := hw'
  subst hw''
  replace c_k_0 := g_c_k_0 dq osq
  clear g_c_k_0
  replace c_k_1 := g_c_k_1 dq osq
  clear g_c_k_1
  clear q0
  clear q1
  have hB4 := QB.out dq osq
  clear QB hB3 z_k
  generalize Go.Sort.grow (redrawn w3 dq) osq = w4 at *
  have z_k := World.block_lt_of_cell? _ _ c_k_0
  go_wp2
  go_ret
  exact ⟨rfl, hB4⟩

theorem keyRights_calls (f : Int) (m : Bool) (_ : Pit.I64 f) (w : World) (hR : Lett w) : LawHolds 3 #[ky f m] w := rights f m w hR
end Go.Proofs.YtahcbgngdpjhkaaDoor
