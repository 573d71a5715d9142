/-
  KeyReads holds: the law's walk.
-/
import Derived.Test.YtahcbgngdpjhkaaDoorKeyL
import Derived.Test.YtahcbgngdpjhkaaDoorKeyP
import Derived.Test.YtahcbgngdpjhkaaDoorKeyRow
namespace Go.Proofs.YtahcbgngdpjhkaaDoor
open Go.RowKit

set_option maxRecDepth 100000 in
set_option maxHeartbeats 4000000 in
theorem reads (s : ByteArray) (w : World) (hR : Lett w) (x : Int) (m : Bool) (e : Int) (HV : Hid (rdV (Key.rdK s.toList) = kv x m e)) :
    Calls Tryd.prog 8 #[.string s] w fun e w' => e = .returned (.bool true) ∧ Below w.heap.size w w' := by
  have hgP := guardP
  have hgK := guardK
  have heP := eql_pt
  have heK := eql_ky
  have hnP := neq_pt
  have hnK := neq_ky
  have hsP := eqP_self
  have hsK := eqK_self
  have hB0 : Below w.heap.size w w := Below.refl _ _
  go_enter Tryd.func8, Tryd.ntmps8
  go_wp2_with fail
  have hR' := hR.below hB0
  refine (awake_any _ hR').mono ?_
  rintro e w1 ⟨rfl, hb1⟩
  clear hR'
  have hs1 := hb1
  have hB1 := below_two hB0 hs1
  clear hB0 hs1
  go_wp2_with fail
  have hR' := hR.below hB1
  refine (read_any s _ hR').mono ?_
  rintro e w2 ⟨rfl, hb2⟩
  clear hR'
  have hs2 := hb2
  have hB2 := below_two hB1 hs2
  clear hB1 hs2
  rw [HV.out]
  go_wp2_with fail
  have hR' := hR.below (hB2.alloc hB2.size (.cells #[.int .i64 x, .bool m] 23))
  refine (refRead_any s _).mono ?_
  rintro e w3 ⟨rfl, hb3⟩
  clear hR'
  have hs3 : Below w2.heap.size w2 w3 := Below.trans (by repeat (first | exact Below.refl _ _ | refine Below.alloc ?_ (by simp <;> omega) _)) (hb3.mono (by simp <;> omega))
  have c_k_0 : w3.cell? ⟨w2.heap.size, 0, none⟩ = some (.int .i64 x) := (hb3.cell (by simp <;> omega)).trans (by go_simp)
  have c_k_1 : w3.cell? ⟨w2.heap.size, 1, none⟩ = some (.bool m) := (hb3.cell (by simp <;> omega)).trans (by go_simp)
  have z_k := World.block_lt_of_cell? _ _ c_k_0
  have hB3 := below_two hB2 hs3
  clear hB2 hs3 hb3
  rw [HV.out]
  go_wp2
  go_ret
  exact ⟨rfl, (hB3.alloc hB3.size (.cells #[.int .i64 x, .bool m] 23))⟩

theorem keyReads_calls (s : ByteArray) (_ : s.size ≤ maxLen) (w : World) (hR : Lett w) : LawHolds 8 #[.string s] w := reads s w hR _ _ _ (Lib.hid rfl)
end Go.Proofs.YtahcbgngdpjhkaaDoor
