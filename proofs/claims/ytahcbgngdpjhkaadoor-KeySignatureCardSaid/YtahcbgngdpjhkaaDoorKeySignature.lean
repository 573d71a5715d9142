/-
  KeySignature holds: the law's walk.
-/
import Derived.Test.YtahcbgngdpjhkaaDoorKeyL
import Derived.Test.YtahcbgngdpjhkaaDoorKeyM
import Derived.Test.YtahcbgngdpjhkaaDoorKeyRow
namespace Go.Proofs.YtahcbgngdpjhkaaDoor
open Go.RowKit

theorem alter_in {f s : Int} (m : Bool) (h0 : -7 ≤ f) (h7 : f ≤ 7) (s0 : 0 ≤ s) (s6 : s ≤ 6) (w : World) :
    Calls Tryd.prog 22 #[ky f m, .int .i64 s] w fun e w' => e = .returned (.tuple #[.int .i64 (Key.sg f s), .int .i64 0]) ∧ Below w.heap.size w w' := by
  have h := alter_any f m s w
  have e : Key.eKS f s = 0 := by unfold Key.eKS; rw [Key.okF_true h0 h7, decide_eq_true ⟨s0, s6⟩]; rfl
  rw [show Key.alt f s = Key.sg f s by unfold Key.alt; rw [if_pos e], e] at h
  exact h
def SgRel (f : Int) (m : Bool) (w : World) (a i : Value) (wr : World) : Prop :=
  ∃ (j : Nat) (t : Int), j ≤ 7 ∧ i = .int .i64 j ∧ a = .int .i64 t ∧ -(j : Int) ≤ t ∧ t ≤ j ∧ Hid (t = Key.sum7 (Key.sg f) j) ∧ wr.cell? ⟨w.heap.size, 0, none⟩ = some (.int .i64 f) ∧ wr.cell? ⟨w.heap.size, 1, none⟩ = some (.bool m) ∧ Below w.heap.size w wr

set_option maxRecDepth 100000 in
set_option maxHeartbeats 4000000 in
theorem signature_no (f : Int) (m : Bool) (w : World) (hR : Lett w) (ho : Key.okF f = false) :
    Calls Tryd.prog 13 #[ky f m] w fun e w' => e = .returned (.bool true) ∧ Below w.heap.size w w' := by
  have hgP := guardP
  have hgK := guardK
  have heP := eql_pt
  have heK := eql_ky
  have hnP := neq_pt
  have hnK := neq_ky
  have hsP := eqP_self
  have hsK := eqK_self
  have hB0 : Below w.heap.size w w := Below.refl _ _
  go_enter Tryd.func13, Tryd.ntmps13
  go_wp2_with fail
  have hR' := hR.below (hB0.alloc hB0.size (.cells #[.int .i64 f, .bool m] 23))
  refine (awake_any _ hR').mono ?_
  rintro e w1 ⟨rfl, hb1⟩
  clear hR'
  have hs1 : Below w.heap.size w w1 := Below.trans (by repeat (first | exact Below.refl _ _ | refine Below.alloc ?_ (by simp <;> omega) _)) (hb1.mono (by simp <;> omega))
  have c_k_0 : w1.cell? ⟨w.heap.size, 0, none⟩ = some (.int .i64 f) := (hb1.cell (by simp <;> omega)).trans (by go_simp)
  have c_k_1 : w1.cell? ⟨w.heap.size, 1, none⟩ = some (.bool m) := (hb1.cell (by simp <;> omega)).trans (by go_simp)
  have z_k := World.block_lt_of_cell? _ _ c_k_0
  have hB1 := below_two hB0 hs1
  clear hB0 hs1 hb1
  go_wp2_with fail
  have hR' := hR.below hB1
  refine (krefRight_no m _ ho).mono ?_
  rintro e w2 ⟨rfl, hb2⟩
  clear hR'
  have hs2 := hb2
  replace c_k_0 := cell_later hs2 c_k_0
  replace c_k_1 := cell_later hs2 c_k_1
  clear z_k
  have z_k := World.block_lt_of_cell? _ _ c_k_0
  have hB2 := below_two hB1 hs2
  clear hB1 hs2
  go_wp2
  go_ret
  exact ⟨rfl, hB2⟩

set_option maxRecDepth 100000 in
set_option maxHeartbeats 4000000 in
theorem signature_yes (f : Int) (m : Bool) (w : World) (hR : Lett w) (h0 : -7 ≤ f) (h7 : f ≤ 7) :
    Calls Tryd.prog 13 #[ky f m] w fun e w' => e = .returned (.bool true) ∧ Below w.heap.size w w' := by
  have hgP := guardP
  have hgK := guardK
  have heP := eql_pt
  have heK := eql_ky
  have hnP := neq_pt
  have hnK := neq_ky
  have hsP := eqP_self
  have hsK := eqK_self
  have hB0 : Below w.heap.size w w := Below.refl _ _
  go_enter Tryd.func13, Tryd.ntmps13
  go_wp2_with fail
  have hR' := hR.below (hB0.alloc hB0.size (.cells #[.int .i64 f, .bool m] 23))
  refine (awake_any _ hR').mono ?_
  rintro e w1 ⟨rfl, hb1⟩
  clear hR'
  have hs1 : Below w.heap.size w w1 := Below.trans (by repeat (first | exact Below.refl _ _ | refine Below.alloc ?_ (by simp <;> omega) _)) (hb1.mono (by simp <;> omega))
  have c_k_0 : w1.cell? ⟨w.heap.size, 0, none⟩ = some (.int .i64 f) := (hb1.cell (by simp <;> omega)).trans (by go_simp)
  have c_k_1 : w1.cell? ⟨w.heap.size, 1, none⟩ = some (.bool m) := (hb1.cell (by simp <;> omega)).trans (by go_simp)
  have z_k := World.block_lt_of_cell? _ _ c_k_0
  have hB1 := below_two hB0 hs1
  clear hB0 hs1 hb1
  go_wp2_with fail
  have hR' := hR.below hB1
  refine (krefRight_yes m _ (Key.okF_true h0 h7)).mono ?_
  rintro e w2 ⟨rfl, hb2⟩
  clear hR'
  have hs2 := hb2
  replace c_k_0 := cell_later hs2 c_k_0
  replace c_k_1 := cell_later hs2 c_k_1
  clear z_k
  have z_k := World.block_lt_of_cell? _ _ c_k_0
  have hB2 := below_two hB1 hs2
  clear hB1 hs2
  go_wp2
  go_loopw [4, 5] (fun a i wr => SgRel f m w a i wr) (fun _ i _ => (7 - intOf i).toNat)
  case atStart => exact ⟨0, 0, by omega, rfl, rfl, by omega, by omega, Lib.hid rfl, c_k_0, c_k_1, hB2⟩
  case round =>
    clear c_k_0 c_k_1 z_k hB2
    obtain ⟨j, t, hj, rfl, rfl, t0, t1, HT, c0, c1, hB⟩ := hrel
    by_cases hj7 : j < 7
    · go_wp2_with fail
      refine (alter_in m h0 h7 (by omega) (by omega) _).mono ?_
      rintro e w2 ⟨rfl, hb⟩
      replace c0 := cell_later hb c0
      replace c1 := cell_later hb c1
      replace hB := below_two hB hb
      clear hb
      have hb := Key.sg_bounds h0 h7 (s := j) (by omega) (by omega)
      have HS : Hid (Key.sum7 (Key.sg f) (j + 1) = Key.sum7 (Key.sg f) j + Key.sg f j) := Lib.hid rfl
      generalize Key.sg f j = x at *
      obtain ⟨b1, b2, b3⟩ := hb
      obtain rfl | rfl | rfl : x = -1 ∨ x = 0 ∨ x = 1 := by omega
      all_goals
        have hf : True := trivial
        go_wp2
        go_roundw
        case rel => exact ⟨j + 1, _, by omega, by go_num, rfl, by omega, by omega, Lib.hid (by have := HT.out; have := HS.out; omega), c0, c1, hB⟩
        case measure => simp [intOf]; omega
    · obtain rfl : j = 7 := by omega
      obtain rfl : t = f := by have := HT.out; have := Key.sum_sg h0 h7; omega
      go_wp2
      go_ret
      exact ⟨rfl, hB⟩

theorem keySignature_calls (f : Int) (m : Bool) (_ : Pit.I64 f) (w : World) (hR : Lett w) : LawHolds 13 #[ky f m] w := by
  cases ho : Key.okF f with
  | true => exact signature_yes f m w hR ((Key.okF_iff f).1 ho).1 ((Key.okF_iff f).1 ho).2
  | false => exact signature_no f m w hR ho
end Go.Proofs.YtahcbgngdpjhkaaDoor
