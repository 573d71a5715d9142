/-
  PitchOctave holds: the law's walk.
-/
import Derived.Test.YtoopchnncjfjoaaDoorPitI
import Derived.Test.YtoopchnncjfjoaaDoorPitRow
namespace Go.Proofs.YtoopchnncjfjoaaDoor
open Go.RowKit

set_option maxRecDepth 100000 in
set_option maxHeartbeats 4000000 in
theorem octave_yes (a1 a2 a3 m s b o : Int) (w : World) (hR : Ready w) (HA : Hid (∀ w, Calls Tryd.prog 13 #[pt a1 a2 a3] w fun e w' => e = .returned (pt s b o) ∧ Below w.heap.size w w')) (hm : Pit.I64 m) (k0 k p : Int) (HK : Hid (pickS m 19 = k0)) (hk' : k0 - 9 = k) (k1 : -9 ≤ k) (k2 : k ≤ 9) (b1 : -1 ≤ o) (b2 : o ≤ 9) (hp' : o + k = p) (M X : Int) (HU : Hid (Pit.up s b o (7 * k) (12 * k) = some (s, b, p))) (HP : Hid (Pit.right s b o = true)) (HW : Hid (Pit.right s b p = true)) (HM : Hid (Pit.num s b o = M)) (HN : Hid (Pit.num s b p = M + 12 * k)) (HL : Hid (Pit.lin s o = X)) (HX : Hid (Pit.lin s p = X + 7 * k)) (hM : 0 ≤ M ∧ M ≤ 127) (hX : -7 ≤ X ∧ X ≤ 69) :
    Calls Tryd.prog 9 #[pt a1 a2 a3, .int .i64 m] w fun e w' => e = .returned (.bool true) ∧ Below w.heap.size w w' := by
  have hgP := guardP
  have hgI := guardI
  have heP := eql_pt
  have heI := eql_iv
  have hnP := neq_pt
  have hsP := eqP_self
  have hsI := eqI_self
  have hB0 : Below w.heap.size w w := Below.refl _ _
  go_enter Tryd.func9, Tryd.ntmps9
  go_wp2_with fail
  have hR' := hR.below (hB0.alloc hB0.size (.cells #[.int .i64 a1, .int .i64 a2, .int .i64 a3] 23))
  refine (awake_any _ hR').mono ?_
  rintro e w1 ⟨rfl, hb1⟩
  clear hR'
  have hs1 : Below w.heap.size w w1 := Below.trans (by repeat (first | exact Below.refl _ _ | refine Below.alloc ?_ (by simp <;> omega) _)) (hb1.mono (by simp <;> omega))
  have c_a_0 : w1.cell? ⟨w.heap.size, 0, none⟩ = some (.int .i64 a1) := (hb1.cell (by simp <;> omega)).trans (by go_simp)
  have c_a_1 : w1.cell? ⟨w.heap.size, 1, none⟩ = some (.int .i64 a2) := (hb1.cell (by simp <;> omega)).trans (by go_simp)
  have c_a_2 : w1.cell? ⟨w.heap.size, 2, none⟩ = some (.int .i64 a3) := (hb1.cell (by simp <;> omega)).trans (by go_simp)
  have z_a := World.block_lt_of_cell? _ _ c_a_0
  have hB1 := below_two hB0 hs1
  clear hB0 hs1 hb1
  go_wp2_with fail
  have hR' := hR.below hB1
  refine (HA.out _).mono ?_
  rintro e w2 ⟨rfl, hb2⟩
  clear hR'
  have hs2 := hb2
  clear c_a_0
  clear c_a_1
  clear c_a_2
  clear z_a
  have hB2 := below_two hB1 hs2
  clear hB1 hs2
  go_wp2_with fail
  refine (pick_any _ _ _ hm (by decide) (by decide)).mono ?_
  rintro e wx ⟨rfl, rfl⟩
  rw [HK.out]
  go_wp2_with fail
  have hR' := hR.below (hB2.alloc hB2.size (.cells #[.int .i64 s, .int .i64 b, .int .i64 o] 23))
  refine (up_any _ _ _ _ _ _ hR').mono ?_
  rintro e w3 ⟨rfl, hb3⟩
  clear hR'
  have hs3 : Below w2.heap.size w2 w3 := Below.trans (by repeat (first | exact Below.refl _ _ | refine Below.alloc ?_ (by simp <;> omega) _)) (hb3.mono (by simp <;> omega))
  have c_p_0 : w3.cell? ⟨w2.heap.size, 0, none⟩ = some (.int .i64 s) := (hb3.cell (by simp <;> omega)).trans (by go_simp)
  have c_p_1 : w3.cell? ⟨w2.heap.size, 1, none⟩ = some (.int .i64 b) := (hb3.cell (by simp <;> omega)).trans (by go_simp)
  have c_p_2 : w3.cell? ⟨w2.heap.size, 2, none⟩ = some (.int .i64 o) := (hb3.cell (by simp <;> omega)).trans (by go_simp)
  have z_p := World.block_lt_of_cell? _ _ c_p_0
  have hB3 := below_two hB2 hs3
  clear hB2 hs3 hb3
  rw [HU.out]
  simp only [upV]
  go_wp2_with fail
  have hR' := hR.below ((hB3.alloc hB3.size (.cells #[.int .i64 s, .int .i64 b, .int .i64 p] 23)).alloc (hB3.alloc hB3.size (.cells #[.int .i64 s, .int .i64 b, .int .i64 p] 23)).size (.cells #[.int .i64 s, .int .i64 b, .int .i64 p] 23))
  refine (right_any _ _ _ _ hR').mono ?_
  rintro e w4 ⟨rfl, hb4⟩
  clear hR'
  have hs4 : Below w3.heap.size w3 w4 := Below.trans (by repeat (first | exact Below.refl _ _ | refine Below.alloc ?_ (by simp <;> omega) _)) (hb4.mono (by simp <;> omega))
  replace c_p_0 := cell_later hs4 c_p_0
  replace c_p_1 := cell_later hs4 c_p_1
  replace c_p_2 := cell_later hs4 c_p_2
  have c_q_0 : w4.cell? ⟨w3.heap.size, 0, none⟩ = some (.int .i64 s) := (hb4.cell (by simp <;> omega)).trans (by go_simp)
  have c_q_1 : w4.cell? ⟨w3.heap.size, 1, none⟩ = some (.int .i64 b) := (hb4.cell (by simp <;> omega)).trans (by go_simp)
  have c_q_2 : w4.cell? ⟨w3.heap.size, 2, none⟩ = some (.int .i64 p) := (hb4.cell (by simp <;> omega)).trans (by go_simp)
  have c_w_0 : w4.cell? ⟨w3.heap.size + 1, 0, none⟩ = some (.int .i64 s) := (hb4.cell (by simp <;> omega)).trans (by go_simp)
  have c_w_1 : w4.cell? ⟨w3.heap.size + 1, 1, none⟩ = some (.int .i64 b) := (hb4.cell (by simp <;> omega)).trans (by go_simp)
  have c_w_2 : w4.cell? ⟨w3.heap.size + 1, 2, none⟩ = some (.int .i64 p) := (hb4.cell (by simp <;> omega)).trans (by go_simp)
  clear z_p
  have z_p := World.block_lt_of_cell? _ _ c_p_0
  have z_q := World.block_lt_of_cell? _ _ c_q_0
  have z_w := World.block_lt_of_cell? _ _ c_w_0
  have hB4 := below_two hB3 hs4
  clear hB3 hs4 hb4
  rw [HW.out]
  go_wp2_with fail
  have hR' := hR.below hB4
  refine (numberE _ _ _ _ hR').mono ?_
  rintro e w5 ⟨rfl, hb5⟩
  clear hR'
  have hs5 := hb5
  replace c_p_0 := cell_later hs5 c_p_0
  replace c_p_1 := cell_later hs5 c_p_1
  replace c_p_2 := cell_later hs5 c_p_2
  replace c_q_0 := cell_later hs5 c_q_0
  replace c_q_1 := cell_later hs5 c_q_1
  replace c_q_2 := cell_later hs5 c_q_2
  replace c_w_0 := cell_later hs5 c_w_0
  replace c_w_1 := cell_later hs5 c_w_1
  replace c_w_2 := cell_later hs5 c_w_2
  clear z_p
  have z_p := World.block_lt_of_cell? _ _ c_p_0
  clear z_q
  have z_q := World.block_lt_of_cell? _ _ c_q_0
  clear z_w
  have z_w := World.block_lt_of_cell? _ _ c_w_0
  have hB5 := below_two hB4 hs5
  clear hB4 hs5
  rw [HP.out, HM.out]
  simp only [onlyR, errP, if_true]
  go_wp2_with fail
  have hR' := hR.below hB5
  refine (numberE _ _ _ _ hR').mono ?_
  rintro e w6 ⟨rfl, hb6⟩
  clear hR'
  have hs6 := hb6
  replace c_p_0 := cell_later hs6 c_p_0
  replace c_p_1 := cell_later hs6 c_p_1
  replace c_p_2 := cell_later hs6 c_p_2
  replace c_q_0 := cell_later hs6 c_q_0
  replace c_q_1 := cell_later hs6 c_q_1
  replace c_q_2 := cell_later hs6 c_q_2
  replace c_w_0 := cell_later hs6 c_w_0
  replace c_w_1 := cell_later hs6 c_w_1
  replace c_w_2 := cell_later hs6 c_w_2
  clear z_p
  have z_p := World.block_lt_of_cell? _ _ c_p_0
  clear z_q
  have z_q := World.block_lt_of_cell? _ _ c_q_0
  clear z_w
  have z_w := World.block_lt_of_cell? _ _ c_w_0
  have hB6 := below_two hB5 hs6
  clear hB5 hs6
  rw [HW.out, HN.out]
  simp only [onlyR, errP, if_true]
  go_wp2_with fail
  have hR' := hR.below hB6
  refine (lineE _ _ _ _ hR').mono ?_
  rintro e w7 ⟨rfl, hb7⟩
  clear hR'
  have hs7 := hb7
  replace c_p_0 := cell_later hs7 c_p_0
  replace c_p_1 := cell_later hs7 c_p_1
  replace c_p_2 := cell_later hs7 c_p_2
  replace c_q_0 := cell_later hs7 c_q_0
  replace c_q_1 := cell_later hs7 c_q_1
  replace c_q_2 := cell_later hs7 c_q_2
  replace c_w_0 := cell_later hs7 c_w_0
  replace c_w_1 := cell_later hs7 c_w_1
  replace c_w_2 := cell_later hs7 c_w_2
  clear z_p
  have z_p := World.block_lt_of_cell? _ _ c_p_0
  clear z_q
  have z_q := World.block_lt_of_cell? _ _ c_q_0
  clear z_w
  have z_w := World.block_lt_of_cell? _ _ c_w_0
  have hB7 := below_two hB6 hs7
  clear hB6 hs7
  rw [HP.out, HL.out]
  simp only [onlyR, errP, if_true]
  go_wp2_with fail
  have hR' := hR.below hB7
  refine (lineE _ _ _ _ hR').mono ?_
  rintro e w8 ⟨rfl, hb8⟩
  clear hR'
  have hs8 := hb8
  replace c_p_0 := cell_later hs8 c_p_0
  replace c_p_1 := cell_later hs8 c_p_1
  replace c_p_2 := cell_later hs8 c_p_2
  replace c_q_0 := cell_later hs8 c_q_0
  replace c_q_1 := cell_later hs8 c_q_1
  replace c_q_2 := cell_later hs8 c_q_2
  replace c_w_0 := cell_later hs8 c_w_0
  replace c_w_1 := cell_later hs8 c_w_1
  replace c_w_2 := cell_later hs8 c_w_2
  clear z_p
  have z_p := World.block_lt_of_cell? _ _ c_p_0
  clear z_q
  have z_q := World.block_lt_of_cell? _ _ c_q_0
  clear z_w
  have z_w := World.block_lt_of_cell? _ _ c_w_0
  have hB8 := below_two hB7 hs8
  clear hB7 hs8
  rw [HW.out, HX.out]
  simp only [onlyR, errP, if_true]
  go_wp2
  go_ret
  exact ⟨rfl, hB8⟩

set_option maxRecDepth 100000 in
set_option maxHeartbeats 4000000 in
theorem octave_no (a1 a2 a3 m s b o : Int) (w : World) (hR : Ready w) (HA : Hid (∀ w, Calls Tryd.prog 13 #[pt a1 a2 a3] w fun e w' => e = .returned (pt s b o) ∧ Below w.heap.size w w')) (hm : Pit.I64 m) (k0 k p : Int) (HK : Hid (pickS m 19 = k0)) (hk' : k0 - 9 = k) (k1 : -9 ≤ k) (k2 : k ≤ 9) (b1 : -1 ≤ o) (b2 : o ≤ 9) (hp' : o + k = p) (HU : Hid (Pit.up s b o (7 * k) (12 * k) = none)) (HW : Hid (Pit.right s b p = false)) :
    Calls Tryd.prog 9 #[pt a1 a2 a3, .int .i64 m] w fun e w' => e = .returned (.bool true) ∧ Below w.heap.size w w' := by
  have hgP := guardP
  have hgI := guardI
  have heP := eql_pt
  have heI := eql_iv
  have hnP := neq_pt
  have hsP := eqP_self
  have hsI := eqI_self
  have hB0 : Below w.heap.size w w := Below.refl _ _
  go_enter Tryd.func9, Tryd.ntmps9
  go_wp2_with fail
  have hR' := hR.below (hB0.alloc hB0.size (.cells #[.int .i64 a1, .int .i64 a2, .int .i64 a3] 23))
  refine (awake_any _ hR').mono ?_
  rintro e w1 ⟨rfl, hb1⟩
  clear hR'
  have hs1 : Below w.heap.size w w1 := Below.trans (by repeat (first | exact Below.refl _ _ | refine Below.alloc ?_ (by simp <;> omega) _)) (hb1.mono (by simp <;> omega))
  have c_a_0 : w1.cell? ⟨w.heap.size, 0, none⟩ = some (.int .i64 a1) := (hb1.cell (by simp <;> omega)).trans (by go_simp)
  have c_a_1 : w1.cell? ⟨w.heap.size, 1, none⟩ = some (.int .i64 a2) := (hb1.cell (by simp <;> omega)).trans (by go_simp)
  have c_a_2 : w1.cell? ⟨w.heap.size, 2, none⟩ = some (.int .i64 a3) := (hb1.cell (by simp <;> omega)).trans (by go_simp)
  have z_a := World.block_lt_of_cell? _ _ c_a_0
  have hB1 := below_two hB0 hs1
  clear hB0 hs1 hb1
  go_wp2_with fail
  have hR' := hR.below hB1
  refine (HA.out _).mono ?_
  rintro e w2 ⟨rfl, hb2⟩
  clear hR'
  have hs2 := hb2
  clear c_a_0
  clear c_a_1
  clear c_a_2
  clear z_a
  have hB2 := below_two hB1 hs2
  clear hB1 hs2
  go_wp2_with fail
  refine (pick_any _ _ _ hm (by decide) (by decide)).mono ?_
  rintro e wx ⟨rfl, rfl⟩
  rw [HK.out]
  go_wp2_with fail
  have hR' := hR.below (hB2.alloc hB2.size (.cells #[.int .i64 s, .int .i64 b, .int .i64 o] 23))
  refine (up_any _ _ _ _ _ _ hR').mono ?_
  rintro e w3 ⟨rfl, hb3⟩
  clear hR'
  have hs3 : Below w2.heap.size w2 w3 := Below.trans (by repeat (first | exact Below.refl _ _ | refine Below.alloc ?_ (by simp <;> omega) _)) (hb3.mono (by simp <;> omega))
  have c_p_0 : w3.cell? ⟨w2.heap.size, 0, none⟩ = some (.int .i64 s) := (hb3.cell (by simp <;> omega)).trans (by go_simp)
  have c_p_1 : w3.cell? ⟨w2.heap.size, 1, none⟩ = some (.int .i64 b) := (hb3.cell (by simp <;> omega)).trans (by go_simp)
  have c_p_2 : w3.cell? ⟨w2.heap.size, 2, none⟩ = some (.int .i64 o) := (hb3.cell (by simp <;> omega)).trans (by go_simp)
  have z_p := World.block_lt_of_cell? _ _ c_p_0
  have hB3 := below_two hB2 hs3
  clear hB2 hs3 hb3
  rw [HU.out]
  simp only [upV]
  go_wp2_with fail
  have hR' := hR.below ((hB3.alloc hB3.size (.cells #[.int .i64 0, .int .i64 0, .int .i64 0] 23)).alloc (hB3.alloc hB3.size (.cells #[.int .i64 0, .int .i64 0, .int .i64 0] 23)).size (.cells #[.int .i64 s, .int .i64 b, .int .i64 p] 23))
  refine (right_any _ _ _ _ hR').mono ?_
  rintro e w4 ⟨rfl, hb4⟩
  clear hR'
  have hs4 : Below w3.heap.size w3 w4 := Below.trans (by repeat (first | exact Below.refl _ _ | refine Below.alloc ?_ (by simp <;> omega) _)) (hb4.mono (by simp <;> omega))
  replace c_p_0 := cell_later hs4 c_p_0
  replace c_p_1 := cell_later hs4 c_p_1
  replace c_p_2 := cell_later hs4 c_p_2
  have c_q_0 : w4.cell? ⟨w3.heap.size, 0, none⟩ = some (.int .i64 0) := (hb4.cell (by simp <;> omega)).trans (by go_simp)
  have c_q_1 : w4.cell? ⟨w3.heap.size, 1, none⟩ = some (.int .i64 0) := (hb4.cell (by simp <;> omega)).trans (by go_simp)
  have c_q_2 : w4.cell? ⟨w3.heap.size, 2, none⟩ = some (.int .i64 0) := (hb4.cell (by simp <;> omega)).trans (by go_simp)
  have c_w_0 : w4.cell? ⟨w3.heap.size + 1, 0, none⟩ = some (.int .i64 s) := (hb4.cell (by simp <;> omega)).trans (by go_simp)
  have c_w_1 : w4.cell? ⟨w3.heap.size + 1, 1, none⟩ = some (.int .i64 b) := (hb4.cell (by simp <;> omega)).trans (by go_simp)
  have c_w_2 : w4.cell? ⟨w3.heap.size + 1, 2, none⟩ = some (.int .i64 p) := (hb4.cell (by simp <;> omega)).trans (by go_simp)
  clear z_p
  have z_p := World.block_lt_of_cell? _ _ c_p_0
  have z_q := World.block_lt_of_cell? _ _ c_q_0
  have z_w := World.block_lt_of_cell? _ _ c_w_0
  have hB4 := below_two hB3 hs4
  clear hB3 hs4 hb4
  rw [HW.out]
  go_wp2
  go_ret
  exact ⟨rfl, hB4⟩

theorem pitchOctave_calls (a1 a2 a3 m : Int) (h1 : Pit.I64 a1) (h2 : Pit.I64 a2) (h3 : Pit.I64 a3) (hm : Pit.I64 m) (w : World) (hR : Ready w) : LawHolds 9 #[pt a1 a2 a3, .int .i64 m] w := by
  obtain ⟨s, b, o, hr, hA⟩ := pitch_fix a1 a2 a3 h1 h2 h3
  have hp := Pit.right_true hr
  obtain ⟨g0, g1, g2, g3, g4, g5, g6, g7⟩ := hr.all
  obtain ⟨k1, k2⟩ := pickS_bounds m (n := 19) (by decide)
  have hn : Pit.num s b (o + (pickS m 19 - 9)) = Pit.num s b o + 12 * (pickS m 19 - 9) := by simp only [Pit.num_eq]; omega
  have hl : Pit.lin s (o + (pickS m 19 - 9)) = Pit.lin s o + 7 * (pickS m 19 - 9) := by simp only [Pit.lin_eq]; omega
  cases hw : Pit.right s b (o + (pickS m 19 - 9)) with
  | true =>
    exact octave_yes a1 a2 a3 m s b o w hR (Lib.hid hA) hm _ _ _ (Lib.hid rfl) rfl (by omega) (by omega) g4 g5 rfl _ _ (Lib.hid (Pit.up_complete hr ((Pit.right_iff _ _ _).1 hw) hl hn)) (Lib.hid hp) (Lib.hid hw) (Lib.hid rfl) (Lib.hid hn) (Lib.hid rfl) (Lib.hid hl) ⟨hr.n0, hr.nM⟩ (lin_bounds hr)
  | false =>
    have hu : Pit.up s b o (7 * (pickS m 19 - 9)) (12 * (pickS m 19 - 9)) = none := Pit.up_none fun s' b' o' _ hq' hl' hn' => by
      obtain ⟨q0, q1, -⟩ := hq'.all
      rw [← hl] at hl'
      rw [← hn] at hn'
      simp only [Pit.lin_eq] at hl'
      obtain rfl : s' = s := by omega
      obtain rfl : o' = o + (pickS m 19 - 9) := by omega
      simp only [Pit.num_eq] at hn'
      obtain rfl : b' = b := by omega
      rw [Pit.right_true hq'] at hw
      cases hw
    exact octave_no a1 a2 a3 m s b o w hR (Lib.hid hA) hm _ _ _ (Lib.hid rfl) rfl (by omega) (by omega) g4 g5 rfl (Lib.hid hu) (Lib.hid hw)
end Go.Proofs.YtoopchnncjfjoaaDoor
