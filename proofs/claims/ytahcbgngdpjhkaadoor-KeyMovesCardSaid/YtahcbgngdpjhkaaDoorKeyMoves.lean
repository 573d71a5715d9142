/-
  KeyMoves holds: the law's walk.
-/
import Derived.Test.YtahcbgngdpjhkaaDoorKeyL
import Derived.Test.YtahcbgngdpjhkaaDoorKeyN
import Derived.Test.YtahcbgngdpjhkaaDoorKeyRow
namespace Go.Proofs.YtahcbgngdpjhkaaDoor
open Go.RowKit

set_option maxRecDepth 100000 in
set_option maxHeartbeats 4000000 in
theorem moves (f : Int) (m : Bool) (S H : Int) (w : World) (hR : Lett w) :
    Calls Tryd.prog 6 #[ky f m, iv S H] w fun e w' => e = .returned (.bool true) ∧ Below w.heap.size w w' := by
  have hgP := guardP
  have hgK := guardK
  have heP := eql_pt
  have heK := eql_ky
  have hnP := neq_pt
  have hnK := neq_ky
  have hsP := eqP_self
  have hsK := eqK_self
  have hB0 : Below w.heap.size w w := Below.refl _ _
  go_enter Tryd.func6, Tryd.ntmps6
  go_wp2_with fail
  have hR' := hR.below ((hB0.alloc hB0.size (.cells #[.int .i64 f, .bool m] 23)).alloc (hB0.alloc hB0.size (.cells #[.int .i64 f, .bool m] 23)).size (.cells #[.int .i64 S, .int .i64 H] 37))
  refine (awake_any _ hR').mono ?_
  rintro e w1 ⟨rfl, hb1⟩
  clear hR'
  have hs1 : Below w.heap.size w w1 := Below.trans (by repeat (first | exact Below.refl _ _ | refine Below.alloc ?_ (by simp <;> omega) _)) (hb1.mono (by simp <;> omega))
  have c_k_0 : w1.cell? ⟨w.heap.size, 0, none⟩ = some (.int .i64 f) := (hb1.cell (by simp <;> omega)).trans (by go_simp)
  have c_k_1 : w1.cell? ⟨w.heap.size, 1, none⟩ = some (.bool m) := (hb1.cell (by simp <;> omega)).trans (by go_simp)
  have c_b_0 : w1.cell? ⟨w.heap.size + 1, 0, none⟩ = some (.int .i64 S) := (hb1.cell (by simp <;> omega)).trans (by go_simp)
  have c_b_1 : w1.cell? ⟨w.heap.size + 1, 1, none⟩ = some (.int .i64 H) := (hb1.cell (by simp <;> omega)).trans (by go_simp)
  have z_b := World.block_lt_of_cell? _ _ c_b_0
  have z_k := World.block_lt_of_cell? _ _ c_k_0
  have hB1 := below_two hB0 hs1
  clear hB0 hs1 hb1
  go_wp2_with fail
  have hR' := hR.below hB1
  refine (move_any f m S H _).mono ?_
  rintro e w2 ⟨rfl, hb2⟩
  clear hR'
  have hs2 := hb2
  replace c_k_0 := cell_later hs2 c_k_0
  replace c_k_1 := cell_later hs2 c_k_1
  replace c_b_0 := cell_later hs2 c_b_0
  replace c_b_1 := cell_later hs2 c_b_1
  clear z_b
  have z_b := World.block_lt_of_cell? _ _ c_b_0
  clear z_k
  have z_k := World.block_lt_of_cell? _ _ c_k_0
  have hB2 := below_two hB1 hs2
  clear hB1 hs2
  go_wp2_with fail
  have hR' := hR.below (hB2.alloc hB2.size (.cells #[.int .i64 (Key.mvF f S H), .bool (Key.mvM f m S H)] 23))
  refine (refMove_any f m S H _).mono ?_
  rintro e w3 ⟨rfl, hb3⟩
  clear hR'
  have hs3 : Below w2.heap.size w2 w3 := Below.trans (by repeat (first | exact Below.refl _ _ | refine Below.alloc ?_ (by simp <;> omega) _)) (hb3.mono (by simp <;> omega))
  replace c_k_0 := cell_later hs3 c_k_0
  replace c_k_1 := cell_later hs3 c_k_1
  replace c_b_0 := cell_later hs3 c_b_0
  replace c_b_1 := cell_later hs3 c_b_1
  have c_m_0 : w3.cell? ⟨w2.heap.size, 0, none⟩ = some (.int .i64 (Key.mvF f S H)) := (hb3.cell (by simp <;> omega)).trans (by go_simp)
  have c_m_1 : w3.cell? ⟨w2.heap.size, 1, none⟩ = some (.bool (Key.mvM f m S H)) := (hb3.cell (by simp <;> omega)).trans (by go_simp)
  clear z_b
  have z_b := World.block_lt_of_cell? _ _ c_b_0
  clear z_k
  have z_k := World.block_lt_of_cell? _ _ c_k_0
  have z_m := World.block_lt_of_cell? _ _ c_m_0
  have hB3 := below_two hB2 hs3
  clear hB2 hs3 hb3
  go_wp2
  go_ret
  exact ⟨rfl, (hB3.alloc hB3.size (.cells #[.int .i64 (Key.mvF f S H), .bool (Key.mvM f m S H)] 23))⟩

theorem keyMoves_calls (f : Int) (m : Bool) (S H : Int) (_ : Pit.I64 f) (_ : Pit.I64 S) (_ : Pit.I64 H) (w : World) (hR : Lett w) : LawHolds 6 #[ky f m, iv S H] w := moves f m S H w hR
end Go.Proofs.YtahcbgngdpjhkaaDoor
