/-
  KeyScales holds: the law's walk.
-/
import Derived.Test.YtahcbgngdpjhkaaDoorKeyL
import Derived.Test.YtahcbgngdpjhkaaDoorKeyQ
import Derived.Test.YtahcbgngdpjhkaaDoorKeyRow
namespace Go.Proofs.YtahcbgngdpjhkaaDoor
open Go.RowKit

set_option maxRecDepth 100000 in
set_option maxHeartbeats 4000000 in
theorem scales (f : Int) (m : Bool) (w : World) (hR : Lett w) :
    Calls Tryd.prog 5 #[ky f m] w fun e w' => e = .returned (.bool true) ∧ Below w.heap.size w w' := by
  have hgP := guardP
  have hgK := guardK
  have heP := eql_pt
  have heK := eql_ky
  have hnP := neq_pt
  have hnK := neq_ky
  have hsP := eqP_self
  have hsK := eqK_self
  have hB0 : Below w.heap.size w w := Below.refl _ _
  go_enter Tryd.func5, Tryd.ntmps5
  go_wp2_with fail
  have hR' := hR.below (hB0.alloc hB0.size (.cells #[.int .i64 f, .bool m] 23))
  refine (awake_any _ hR').mono ?_
  rintro e w1 ⟨rfl, hb1⟩
  clear hR'
  have hs1 : Below w.heap.size w w1 := Below.trans (by repeat (first | exact Below.refl _ _ | refine Below.alloc ?_ (by simp <;> omega) _)) (hb1.mono (by simp <;> omega))
  have c_k_0 : w1.cell? ⟨w.heap.size, 0, none⟩ = some (.int .i64 f) := (hb1.cell (by simp <;> omega)).trans (by go_simp)
  have c_k_1 : w1.cell? ⟨w.heap.size, 1, none⟩ = some (.bool m) := (hb1.cell (by simp <;> omega)).trans (by go_simp)
  have z_k := World.block_lt_of_cell? _ _ c_k_0
  have hB1 := below_two hB0 hs1
  clear hB0 hs1 hb1
  go_wp2_with fail
  have hR' := hR.below hB1
  refine (scale_any f m _).mono ?_
  rintro e w2 ⟨⟨v1, rfl, hv1⟩, hb2⟩
  clear hR'
  have hs2 := hb2
  replace c_k_0 := cell_later hs2 c_k_0
  replace c_k_1 := cell_later hs2 c_k_1
  clear z_k
  have z_k := World.block_lt_of_cell? _ _ c_k_0
  have hB2 := below_two hB1 hs2
  clear hB1 hs2
  have HV1 := Lib.hid hv1
  clear hv1
  go_wp2_with fail
  have hR' := hR.below hB2
  refine (refScale_any f m _).mono ?_
  rintro e w3 ⟨⟨v2, rfl, hv2⟩, hb3⟩
  clear hR'
  have hs3 := hb3
  replace c_k_0 := cell_later hs3 c_k_0
  replace c_k_1 := cell_later hs3 c_k_1
  clear z_k
  have z_k := World.block_lt_of_cell? _ _ c_k_0
  have hB3 := below_two hB2 hs3
  clear hB2 hs3
  have HV2 := Lib.hid hv2
  clear hv2
  replace HV1 := Lib.hid (HV1.out.later hb3)
  go_wp2_with fail
  have hR' := hR.below hB3
  refine (refSame_any f m _ v1 v2 HV1.out HV2.out).mono ?_
  rintro e w4 ⟨rfl, hb4⟩
  clear hR'
  have hs4 := hb4
  replace c_k_0 := cell_later hs4 c_k_0
  replace c_k_1 := cell_later hs4 c_k_1
  clear z_k
  have z_k := World.block_lt_of_cell? _ _ c_k_0
  have hB4 := below_two hB3 hs4
  clear hB3 hs4
  go_wp2
  go_ret
  exact ⟨rfl, hB4⟩

theorem keyScales_calls (f : Int) (m : Bool) (_ : Pit.I64 f) (w : World) (hR : Lett w) : LawHolds 5 #[ky f m] w := scales f m w hR
end Go.Proofs.YtahcbgngdpjhkaaDoor
