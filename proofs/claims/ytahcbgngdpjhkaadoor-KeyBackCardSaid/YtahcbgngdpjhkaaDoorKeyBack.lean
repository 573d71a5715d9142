/-
  KeyBack holds: the law's walk.
-/
import Derived.Test.YtahcbgngdpjhkaaDoorKeyL
import Derived.Test.YtahcbgngdpjhkaaDoorKeyRow
namespace Go.Proofs.YtahcbgngdpjhkaaDoor
open Go.RowKit
theorem toList_mk (T : List UInt8) : (ByteArray.mk T.toArray).toList = T := (Lib.toList_data _).trans (by simp)

set_option maxRecDepth 100000 in
set_option maxHeartbeats 4000000 in
theorem back_yes (f : Int) (m : Bool) (w : World) (hR : Lett w) (T : List UInt8) (HT : Hid (Key.txE f m = T)) (HK : Hid (Key.eK f = 0)) (HR : Hid (Key.rdK T = some (f, m))) :
    Calls Tryd.prog 9 #[ky f m] w fun e w' => e = .returned (.bool true) ∧ Below w.heap.size w w' := by
  have hgP := guardP
  have hgK := guardK
  have heP := eql_pt
  have heK := eql_ky
  have hnP := neq_pt
  have hnK := neq_ky
  have hsP := eqP_self
  have hsK := eqK_self
  have hB0 : Below w.heap.size w w := Below.refl _ _
  go_enter Tryd.func9, Tryd.ntmps9
  go_wp2_with fail
  have hR' := hR.below (hB0.alloc hB0.size (.cells #[.int .i64 f, .bool m] 23))
  refine (awake_any _ hR').mono ?_
  rintro e w1 ⟨rfl, hb1⟩
  clear hR'
  have hs1 : Below w.heap.size w w1 := Below.trans (by repeat (first | exact Below.refl _ _ | refine Below.alloc ?_ (by simp <;> omega) _)) (hb1.mono (by simp <;> omega))
  have c_k_0 : w1.cell? ⟨w.heap.size, 0, none⟩ = some (.int .i64 f) := (hb1.cell (by simp <;> omega)).trans (by go_simp)
  have c_k_1 : w1.cell? ⟨w.heap.size, 1, none⟩ = some (.bool m) := (hb1.cell (by simp <;> omega)).trans (by go_simp)
  have z_k := World.block_lt_of_cell? _ _ c_k_0
  have hB1 := below_two hB0 hs1
  clear hB0 hs1 hb1
  go_wp2_with fail
  have hR' := hR.below hB1
  refine (text_any f m _ hR').mono ?_
  rintro e w2 ⟨rfl, hb2⟩
  clear hR'
  have hs2 := hb2
  replace c_k_0 := cell_later hs2 c_k_0
  replace c_k_1 := cell_later hs2 c_k_1
  clear z_k
  have z_k := World.block_lt_of_cell? _ _ c_k_0
  have hB2 := below_two hB1 hs2
  clear hB1 hs2
  rw [HT.out, HK.out]
  go_wp2_with fail
  have hR' := hR.below hB2
  refine (read_any _ _ hR').mono ?_
  rintro e w3 ⟨rfl, hb3⟩
  clear hR'
  have hs3 := hb3
  replace c_k_0 := cell_later hs3 c_k_0
  replace c_k_1 := cell_later hs3 c_k_1
  clear z_k
  have z_k := World.block_lt_of_cell? _ _ c_k_0
  have hB3 := below_two hB2 hs3
  clear hB2 hs3
  rw [show (ByteArray.mk T.toArray).toList = T from toList_mk T, HR.out]
  simp only [rdV]
  go_wp2
  go_ret
  exact ⟨rfl, (hB3.alloc hB3.size (.cells #[.int .i64 f, .bool m] 23))⟩

set_option maxRecDepth 100000 in
set_option maxHeartbeats 4000000 in
theorem back_no (f : Int) (m : Bool) (w : World) (hR : Lett w) (ho : Key.okF f = false) (HT : Hid (Key.txE f m = [])) (HK : Hid (Key.eK f = 30)) :
    Calls Tryd.prog 9 #[ky f m] w fun e w' => e = .returned (.bool true) ∧ Below w.heap.size w w' := by
  have hgP := guardP
  have hgK := guardK
  have heP := eql_pt
  have heK := eql_ky
  have hnP := neq_pt
  have hnK := neq_ky
  have hsP := eqP_self
  have hsK := eqK_self
  have hB0 : Below w.heap.size w w := Below.refl _ _
  go_enter Tryd.func9, Tryd.ntmps9
  go_wp2_with fail
  have hR' := hR.below (hB0.alloc hB0.size (.cells #[.int .i64 f, .bool m] 23))
  refine (awake_any _ hR').mono ?_
  rintro e w1 ⟨rfl, hb1⟩
  clear hR'
  have hs1 : Below w.heap.size w w1 := Below.trans (by repeat (first | exact Below.refl _ _ | refine Below.alloc ?_ (by simp <;> omega) _)) (hb1.mono (by simp <;> omega))
  have c_k_0 : w1.cell? ⟨w.heap.size, 0, none⟩ = some (.int .i64 f) := (hb1.cell (by simp <;> omega)).trans (by go_simp)
  have c_k_1 : w1.cell? ⟨w.heap.size, 1, none⟩ = some (.bool m) := (hb1.cell (by simp <;> omega)).trans (by go_simp)
  have z_k := World.block_lt_of_cell? _ _ c_k_0
  have hB1 := below_two hB0 hs1
  clear hB0 hs1 hb1
  go_wp2_with fail
  have hR' := hR.below hB1
  refine (text_any f m _ hR').mono ?_
  rintro e w2 ⟨rfl, hb2⟩
  clear hR'
  have hs2 := hb2
  replace c_k_0 := cell_later hs2 c_k_0
  replace c_k_1 := cell_later hs2 c_k_1
  clear z_k
  have z_k := World.block_lt_of_cell? _ _ c_k_0
  have hB2 := below_two hB1 hs2
  clear hB1 hs2
  rw [HT.out, HK.out]
  go_wp2_with fail
  have hR' := hR.below hB2
  refine (read_any _ _ hR').mono ?_
  rintro e w3 ⟨rfl, hb3⟩
  clear hR'
  have hs3 := hb3
  replace c_k_0 := cell_later hs3 c_k_0
  replace c_k_1 := cell_later hs3 c_k_1
  clear z_k
  have z_k := World.block_lt_of_cell? _ _ c_k_0
  have hB3 := below_two hB2 hs3
  clear hB2 hs3
  rw [toList_mk [], Key.rd_nil]
  simp only [rdV]
  go_wp2_with fail
  have hR' := hR.below (hB3.alloc hB3.size (.cells #[.int .i64 0, .bool false] 23))
  refine (kright_no m _ ho).mono ?_
  rintro e w4 ⟨rfl, hb4⟩
  clear hR'
  have hs4 : Below w3.heap.size w3 w4 := Below.trans (by repeat (first | exact Below.refl _ _ | refine Below.alloc ?_ (by simp <;> omega) _)) (hb4.mono (by simp <;> omega))
  replace c_k_0 := cell_later hs4 c_k_0
  replace c_k_1 := cell_later hs4 c_k_1
  have c_m_0 : w4.cell? ⟨w3.heap.size, 0, none⟩ = some (.int .i64 0) := (hb4.cell (by simp <;> omega)).trans (by go_simp)
  have c_m_1 : w4.cell? ⟨w3.heap.size, 1, none⟩ = some (.bool false) := (hb4.cell (by simp <;> omega)).trans (by go_simp)
  clear z_k
  have z_k := World.block_lt_of_cell? _ _ c_k_0
  have z_m := World.block_lt_of_cell? _ _ c_m_0
  have hB4 := below_two hB3 hs4
  clear hB3 hs4 hb4
  go_wp2
  go_ret
  exact ⟨rfl, hB4⟩

theorem keyBack_calls (f : Int) (m : Bool) (_ : Pit.I64 f) (w : World) (hR : Lett w) : LawHolds 9 #[ky f m] w := by
  cases ho : Key.okF f with
  | true =>
    obtain ⟨h0, h7⟩ := (Key.okF_iff f).1 ho
    have ht : Key.txE f m = Key.tx f m := by unfold Key.txE; rw [if_pos ho]
    exact back_yes f m w hR _ (Lib.hid ht) (Lib.hid (by unfold Key.eK; rw [if_pos ho])) (Lib.hid (Key.rd_tx m h0 h7))
  | false => exact back_no f m w hR ho (Lib.hid (by unfold Key.txE; rw [ho]; rfl)) (Lib.hid (by unfold Key.eK; rw [ho]; rfl))
end Go.Proofs.YtahcbgngdpjhkaaDoor
