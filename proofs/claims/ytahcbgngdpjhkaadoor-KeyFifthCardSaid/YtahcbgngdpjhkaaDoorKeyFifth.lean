/-
  KeyFifth holds: the law's walk.
-/
import Derived.Test.YtahcbgngdpjhkaaDoorKeyL
import Derived.Test.YtahcbgngdpjhkaaDoorKeyM
import Derived.Test.YtahcbgngdpjhkaaDoorKeyRow
import Derived.Test.YtahcbgngdpjhkaaDoorKeySignature
namespace Go.Proofs.YtahcbgngdpjhkaaDoor
open Go.RowKit

set_option maxRecDepth 100000 in
set_option maxHeartbeats 4000000 in
theorem fifth_no (f : Int) (m : Bool) (w : World) (hR : Lett w) (ho : Key.okF f = false) (H1 : Hid (∀ w, Calls Tryd.prog 27 #[ky f m, iv 4 7] w fun e w' => e = .returned (kv 0 false 30) ∧ Below w.heap.size w w')) :
    Calls Tryd.prog 15 #[ky f m] w fun e w' => e = .returned (.bool true) ∧ Below w.heap.size w w' := by
  have hgP := guardP
  have hgK := guardK
  have heP := eql_pt
  have heK := eql_ky
  have hnP := neq_pt
  have hnK := neq_ky
  have hsP := eqP_self
  have hsK := eqK_self
  have hB0 : Below w.heap.size w w := Below.refl _ _
  go_enter Tryd.func15, Tryd.ntmps15
  go_wp2_with fail
  have hR' := hR.below (hB0.alloc hB0.size (.cells #[.int .i64 f, .bool m] 23))
  refine (awake_any _ hR').mono ?_
  rintro e w1 ⟨rfl, hb1⟩
  clear hR'
  have hs1 : Below w.heap.size w w1 := Below.trans (by repeat (first | exact Below.refl _ _ | refine Below.alloc ?_ (by simp <;> omega) _)) (hb1.mono (by simp <;> omega))
  have c_k_0 : w1.cell? ⟨w.heap.size, 0, none⟩ = some (.int .i64 f) := (hb1.cell (by simp <;> omega)).trans (by go_simp)
  have c_k_1 : w1.cell? ⟨w.heap.size, 1, none⟩ = some (.bool m) := (hb1.cell (by simp <;> omega)).trans (by go_simp)
  have z_k := World.block_lt_of_cell? _ _ c_k_0
  have hB1 := below_two hB0 hs1
  clear hB0 hs1 hb1
  go_wp2_with fail
  have hR' := hR.below hB1
  refine (H1.out _).mono ?_
  rintro e w2 ⟨rfl, hb2⟩
  clear hR'
  have hs2 := hb2
  replace c_k_0 := cell_later hs2 c_k_0
  replace c_k_1 := cell_later hs2 c_k_1
  clear z_k
  have z_k := World.block_lt_of_cell? _ _ c_k_0
  have hB2 := below_two hB1 hs2
  clear hB1 hs2
  go_wp2_with fail
  have hR' := hR.below (hB2.alloc hB2.size (.cells #[.int .i64 0, .bool false] 23))
  refine (krefRight_no m _ ho).mono ?_
  rintro e w3 ⟨rfl, hb3⟩
  clear hR'
  have hs3 : Below w2.heap.size w2 w3 := Below.trans (by repeat (first | exact Below.refl _ _ | refine Below.alloc ?_ (by simp <;> omega) _)) (hb3.mono (by simp <;> omega))
  replace c_k_0 := cell_later hs3 c_k_0
  replace c_k_1 := cell_later hs3 c_k_1
  have c_m_0 : w3.cell? ⟨w2.heap.size, 0, none⟩ = some (.int .i64 0) := (hb3.cell (by simp <;> omega)).trans (by go_simp)
  have c_m_1 : w3.cell? ⟨w2.heap.size, 1, none⟩ = some (.bool false) := (hb3.cell (by simp <;> omega)).trans (by go_simp)
  clear z_k
  have z_k := World.block_lt_of_cell? _ _ c_k_0
  have z_m := World.block_lt_of_cell? _ _ c_m_0
  have hB3 := below_two hB2 hs3
  clear hB2 hs3 hb3
  go_wp2
  go_ret
  exact ⟨rfl, hB3⟩

set_option maxRecDepth 100000 in
set_option maxHeartbeats 4000000 in
theorem fifth_7 (m : Bool) (w : World) (hR : Lett w) (H1 : Hid (∀ w, Calls Tryd.prog 27 #[ky 7 m, iv 4 7] w fun e w' => e = .returned (kv 0 false 30) ∧ Below w.heap.size w w')) :
    Calls Tryd.prog 15 #[ky 7 m] w fun e w' => e = .returned (.bool true) ∧ Below w.heap.size w w' := by
  have hgP := guardP
  have hgK := guardK
  have heP := eql_pt
  have heK := eql_ky
  have hnP := neq_pt
  have hnK := neq_ky
  have hsP := eqP_self
  have hsK := eqK_self
  have hB0 : Below w.heap.size w w := Below.refl _ _
  go_enter Tryd.func15, Tryd.ntmps15
  go_wp2_with fail
  have hR' := hR.below (hB0.alloc hB0.size (.cells #[.int .i64 7, .bool m] 23))
  refine (awake_any _ hR').mono ?_
  rintro e w1 ⟨rfl, hb1⟩
  clear hR'
  have hs1 : Below w.heap.size w w1 := Below.trans (by repeat (first | exact Below.refl _ _ | refine Below.alloc ?_ (by simp <;> omega) _)) (hb1.mono (by simp <;> omega))
  have c_k_0 : w1.cell? ⟨w.heap.size, 0, none⟩ = some (.int .i64 7) := (hb1.cell (by simp <;> omega)).trans (by go_simp)
  have c_k_1 : w1.cell? ⟨w.heap.size, 1, none⟩ = some (.bool m) := (hb1.cell (by simp <;> omega)).trans (by go_simp)
  have z_k := World.block_lt_of_cell? _ _ c_k_0
  have hB1 := below_two hB0 hs1
  clear hB0 hs1 hb1
  go_wp2_with fail
  have hR' := hR.below hB1
  refine (H1.out _).mono ?_
  rintro e w2 ⟨rfl, hb2⟩
  clear hR'
  have hs2 := hb2
  replace c_k_0 := cell_later hs2 c_k_0
  replace c_k_1 := cell_later hs2 c_k_1
  clear z_k
  have z_k := World.block_lt_of_cell? _ _ c_k_0
  have hB2 := below_two hB1 hs2
  clear hB1 hs2
  go_wp2_with fail
  have hR' := hR.below (hB2.alloc hB2.size (.cells #[.int .i64 0, .bool false] 23))
  refine (krefRight_yes m _ (by decide +kernel)).mono ?_
  rintro e w3 ⟨rfl, hb3⟩
  clear hR'
  have hs3 : Below w2.heap.size w2 w3 := Below.trans (by repeat (first | exact Below.refl _ _ | refine Below.alloc ?_ (by simp <;> omega) _)) (hb3.mono (by simp <;> omega))
  replace c_k_0 := cell_later hs3 c_k_0
  replace c_k_1 := cell_later hs3 c_k_1
  have c_m_0 : w3.cell? ⟨w2.heap.size, 0, none⟩ = some (.int .i64 0) := (hb3.cell (by simp <;> omega)).trans (by go_simp)
  have c_m_1 : w3.cell? ⟨w2.heap.size, 1, none⟩ = some (.bool false) := (hb3.cell (by simp <;> omega)).trans (by go_simp)
  clear z_k
  have z_k := World.block_lt_of_cell? _ _ c_k_0
  have z_m := World.block_lt_of_cell? _ _ c_m_0
  have hB3 := below_two hB2 hs3
  clear hB2 hs3 hb3
  go_wp2
  go_ret
  exact ⟨rfl, hB3⟩

def FfRel (f : Int) (m : Bool) (A B : Nat) (w : World) (a i : Value) (wr : World) : Prop :=
  ∃ (j : Nat) (t : Int), j ≤ 7 ∧ i = .int .i64 j ∧ a = .int .i64 t ∧ 0 ≤ t ∧ t ≤ j ∧ Hid (t = Key.sum7 (Key.sg (f + 1)) j - Key.sum7 (Key.sg f) j) ∧ wr.cell? ⟨A, 0, none⟩ = some (.int .i64 f) ∧ wr.cell? ⟨A, 1, none⟩ = some (.bool m) ∧ wr.cell? ⟨B, 0, none⟩ = some (.int .i64 (f + 1)) ∧ wr.cell? ⟨B, 1, none⟩ = some (.bool m) ∧ Below w.heap.size w wr

set_option maxRecDepth 100000 in
set_option maxHeartbeats 4000000 in
theorem fifth_yes (f : Int) (m : Bool) (w : World) (hR : Lett w) (h0 : -7 ≤ f) (h7 : f ≤ 6) (H1 : Hid (∀ w, Calls Tryd.prog 27 #[ky f m, iv 4 7] w fun e w' => e = .returned (kv (f + 1) m 0) ∧ Below w.heap.size w w')) :
    Calls Tryd.prog 15 #[ky f m] w fun e w' => e = .returned (.bool true) ∧ Below w.heap.size w w' := by
  have hgP := guardP
  have hgK := guardK
  have heP := eql_pt
  have heK := eql_ky
  have hnP := neq_pt
  have hnK := neq_ky
  have hsP := eqP_self
  have hsK := eqK_self
  have hB0 : Below w.heap.size w w := Below.refl _ _
  go_enter Tryd.func15, Tryd.ntmps15
  go_wp2_with fail
  have hR' := hR.below (hB0.alloc hB0.size (.cells #[.int .i64 f, .bool m] 23))
  refine (awake_any _ hR').mono ?_
  rintro e w1 ⟨rfl, hb1⟩
  clear hR'
  have hs1 : Below w.heap.size w w1 := Below.trans (by repeat (first | exact Below.refl _ _ | refine Below.alloc ?_ (by simp <;> omega) _)) (hb1.mono (by simp <;> omega))
  have c_k_0 : w1.cell? ⟨w.heap.size, 0, none⟩ = some (.int .i64 f) := (hb1.cell (by simp <;> omega)).trans (by go_simp)
  have c_k_1 : w1.cell? ⟨w.heap.size, 1, none⟩ = some (.bool m) := (hb1.cell (by simp <;> omega)).trans (by go_simp)
  have z_k := World.block_lt_of_cell? _ _ c_k_0
  have hB1 := below_two hB0 hs1
  clear hB0 hs1 hb1
  go_wp2_with fail
  have hR' := hR.below hB1
  refine (H1.out _).mono ?_
  rintro e w2 ⟨rfl, hb2⟩
  clear hR'
  have hs2 := hb2
  replace c_k_0 := cell_later hs2 c_k_0
  replace c_k_1 := cell_later hs2 c_k_1
  clear z_k
  have z_k := World.block_lt_of_cell? _ _ c_k_0
  have hB2 := below_two hB1 hs2
  clear hB1 hs2
  go_wp2_with fail
  have hs3 : Below w2.heap.size w2 (w2.alloc (.cells #[.int .i64 (f + 1), .bool m] 23)) := by repeat (first | exact Below.refl _ _ | refine Below.alloc ?_ (by simp <;> omega) _)
  replace c_k_0 := cell_later hs3 c_k_0
  replace c_k_1 := cell_later hs3 c_k_1
  have c_m_0 : (w2.alloc (.cells #[.int .i64 (f + 1), .bool m] 23)).cell? ⟨w2.heap.size, 0, none⟩ = some (.int .i64 (f + 1)) := by go_simp
  have c_m_1 : (w2.alloc (.cells #[.int .i64 (f + 1), .bool m] 23)).cell? ⟨w2.heap.size, 1, none⟩ = some (.bool m) := by go_simp
  have hB3 := below_two hB2 hs3
  clear hB2 hs3
  have y3_k := z_k
  generalize (w2.alloc (.cells #[.int .i64 (f + 1), .bool m] 23)) = w3 at *
  clear z_k
  have z_k := World.block_lt_of_cell? _ _ c_k_0
  have z_m := World.block_lt_of_cell? _ _ c_m_0
  generalize w2.heap.size = B at *
  go_loopw [6, 7] (fun a i wr => FfRel f m w.heap.size B w a i wr) (fun _ i _ => (7 - intOf i).toNat)
  case atStart => exact ⟨0, 0, by omega, rfl, rfl, by omega, by omega, Lib.hid rfl, c_k_0, c_k_1, c_m_0, c_m_1, hB3⟩
  case round =>
    obtain ⟨j, t, hj, rfl, rfl, t0, t1, HT, c0, c1, d0, d1, hB⟩ := hrel
    by_cases hj7 : j < 7
    · go_wp2_with fail
      refine (alter_in (f := f) m h0 (by omega) (by omega) (by omega) _).mono ?_
      rintro e u2 ⟨rfl, hb⟩
      replace c0 := cell_later hb c0
      replace c1 := cell_later hb c1
      replace d0 := cell_later hb d0
      replace d1 := cell_later hb d1
      replace hB := below_two hB hb
      clear hb
      go_wp2_with fail
      refine (alter_in (f := f + 1) m (by omega) (by omega) (by omega) (by omega) _).mono ?_
      rintro e u3 ⟨rfl, hb⟩
      replace c0 := cell_later hb c0
      replace c1 := cell_later hb c1
      replace d0 := cell_later hb d0
      replace d1 := cell_later hb d1
      replace hB := below_two hB hb
      clear hb
      have hx := Key.sg_bounds (f := f) (s := j) h0 (by omega) (by omega) (by omega)
      have hy := Key.fifth_sg (f := f) (s := j) h0 h7 (by omega) (by omega)
      have HS : Hid (Key.sum7 (Key.sg f) (j + 1) = Key.sum7 (Key.sg f) j + Key.sg f j) := Lib.hid rfl
      have HS' : Hid (Key.sum7 (Key.sg (f + 1)) (j + 1) = Key.sum7 (Key.sg (f + 1)) j + Key.sg (f + 1) j) := Lib.hid rfl
      generalize Key.sg f j = x at *
      generalize Key.sg (f + 1) j = y at *
      obtain ⟨b1, b2, -⟩ := hx
      obtain rfl | rfl := hy
      · go_wp2
        go_roundw
        case rel => exact ⟨j + 1, _, by omega, by go_num, rfl, by omega, by omega, Lib.hid (by have := HT.out; have := HS.out; have := HS'.out; omega), c0, c1, d0, d1, hB⟩
        case measure => simp [intOf]; omega
      · have hne : (x + 1 == x) = false := by rw [beq_eq_false_iff_ne]; omega
        go_wp2
        go_roundw
        case rel => exact ⟨j + 1, _, by omega, by go_num, rfl, by omega, by omega, Lib.hid (by have := HT.out; have := HS.out; have := HS'.out; omega), c0, c1, d0, d1, hB⟩
        case measure => simp [intOf]; omega
    · obtain rfl : j = 7 := by omega
      obtain rfl : t = 1 := by have := HT.out; have := Key.sum_sg (f := f) h0 (by omega); have := Key.sum_sg (f := f + 1) (by omega) (by omega); omega
      go_wp2
      go_ret
      exact ⟨rfl, hB⟩

theorem keyFifth_calls (f : Int) (m : Bool) (_ : Pit.I64 f) (w : World) (hR : Lett w) : LawHolds 15 #[ky f m] w := by
  have hm := fun w => move_any f m 4 7 w
  unfold Key.mvF Key.mvM Key.mvE at hm
  cases ho : Key.okF f with
  | true =>
    obtain ⟨h0, h7⟩ := (Key.okF_iff f).1 ho
    by_cases h6 : f ≤ 6
    · refine fifth_yes f m w hR h0 h6 (Lib.hid fun w => ?_)
      have h := move_yes f m 4 7 w h0 h7 (by decide) (by decide) (by decide) (by decide) (by omega) (by omega)
      rw [show f + (7 * 7 - 12 * 4) = f + 1 by omega] at h
      exact h
    · obtain rfl : f = 7 := by omega
      exact fifth_7 m w hR (Lib.hid hm)
  | false =>
    rw [ho] at hm
    exact fifth_no f m w hR ho (Lib.hid hm)
end Go.Proofs.YtahcbgngdpjhkaaDoor
