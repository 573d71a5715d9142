/-
  PitchBack holds: the law's walk.
-/
import Derived.Test.YtoopchnncjfjoaaDoorPitI
import Derived.Test.YtoopchnncjfjoaaDoorPitRow
namespace Go.Proofs.YtoopchnncjfjoaaDoor
open Go.RowKit

set_option maxRecDepth 100000 in
set_option maxHeartbeats 4000000 in
theorem back_same (a1 a2 a3 b1 b2 b3 s b o t c p : Int) (w : World) (hR : Ready w) (HA : Hid (∀ w, Calls Tryd.prog 13 #[pt a1 a2 a3] w fun e w' => e = .returned (pt s b o) ∧ Below w.heap.size w w')) (HB : Hid (∀ w, Calls Tryd.prog 13 #[pt b1 b2 b3] w fun e w' => e = .returned (pt t c p) ∧ Below w.heap.size w w')) (S T : List UInt8) (HS : Hid (txtV (Pit.right s b o) s b o = S ∧ errP (Pit.right s b o) = 0)) (HT : Hid (txtV (Pit.right t c p) t c p = T ∧ errP (Pit.right t c p) = 0)) (HR : Hid (Pit.rd S = some (s, b, o))) (l2 : 2 ≤ S.length) (l5 : S.length ≤ 5) (hST : (S == T) = true) (hpq : eqP s b o t c p = true) :
    Calls Tryd.prog 4 #[pt a1 a2 a3, pt b1 b2 b3] w fun e w' => e = .returned (.bool true) ∧ Below w.heap.size w w' := by
  have hgP := guardP
  have hgI := guardI
  have heP := eql_pt
  have heI := eql_iv
  have hnP := neq_pt
  have hsP := eqP_self
  have hsI := eqI_self
  have hsz : (⟨S.toArray⟩ : ByteArray).size = S.length := sz S
  have hB0 : Below w.heap.size w w := Below.refl _ _
  go_enter Tryd.func4, Tryd.ntmps4
  go_wp2_with fail
  have hR' := hR.below ((hB0.alloc hB0.size (.cells #[.int .i64 a1, .int .i64 a2, .int .i64 a3] 23)).alloc (hB0.alloc hB0.size (.cells #[.int .i64 a1, .int .i64 a2, .int .i64 a3] 23)).size (.cells #[.int .i64 b1, .int .i64 b2, .int .i64 b3] 23))
  refine (awake_any _ hR').mono ?_
  rintro e w1 ⟨rfl, hb1⟩
  clear hR'
  have hs1 : Below w.heap.size w w1 := Below.trans (by repeat (first | exact Below.refl _ _ | refine Below.alloc ?_ (by simp <;> omega) _)) (hb1.mono (by simp <;> omega))
  have c_a_0 : w1.cell? ⟨w.heap.size, 0, none⟩ = some (.int .i64 a1) := (hb1.cell (by simp <;> omega)).trans (by go_simp)
  have c_a_1 : w1.cell? ⟨w.heap.size, 1, none⟩ = some (.int .i64 a2) := (hb1.cell (by simp <;> omega)).trans (by go_simp)
  have c_a_2 : w1.cell? ⟨w.heap.size, 2, none⟩ = some (.int .i64 a3) := (hb1.cell (by simp <;> omega)).trans (by go_simp)
  have c_b_0 : w1.cell? ⟨w.heap.size + 1, 0, none⟩ = some (.int .i64 b1) := (hb1.cell (by simp <;> omega)).trans (by go_simp)
  have c_b_1 : w1.cell? ⟨w.heap.size + 1, 1, none⟩ = some (.int .i64 b2) := (hb1.cell (by simp <;> omega)).trans (by go_simp)
  have c_b_2 : w1.cell? ⟨w.heap.size + 1, 2, none⟩ = some (.int .i64 b3) := (hb1.cell (by simp <;> omega)).trans (by go_simp)
  have z_a := World.block_lt_of_cell? _ _ c_a_0
  have z_b := World.block_lt_of_cell? _ _ c_b_0
  have hB1 := below_two hB0 hs1
  clear hB0 hs1 hb1
  go_wp2_with fail
  have hR' := hR.below hB1
  refine (HA.out _).mono ?_
  rintro e w2 ⟨rfl, hb2⟩
  clear hR'
  have hs2 := hb2
  clear c_a_0
  clear c_a_1
  clear c_a_2
  replace c_b_0 := cell_later hs2 c_b_0
  replace c_b_1 := cell_later hs2 c_b_1
  replace c_b_2 := cell_later hs2 c_b_2
  clear z_b
  have z_b := World.block_lt_of_cell? _ _ c_b_0
  clear z_a
  have hB2 := below_two hB1 hs2
  clear hB1 hs2
  go_wp2_with fail
  have hR' := hR.below (hB2.alloc hB2.size (.cells #[.int .i64 s, .int .i64 b, .int .i64 o] 23))
  refine (HB.out _).mono ?_
  rintro e w3 ⟨rfl, hb3⟩
  clear hR'
  have hs3 : Below w2.heap.size w2 w3 := Below.trans (by repeat (first | exact Below.refl _ _ | refine Below.alloc ?_ (by simp <;> omega) _)) (hb3.mono (by simp <;> omega))
  clear c_b_0
  clear c_b_1
  clear c_b_2
  have c_p_0 : w3.cell? ⟨w2.heap.size, 0, none⟩ = some (.int .i64 s) := (hb3.cell (by simp <;> omega)).trans (by go_simp)
  have c_p_1 : w3.cell? ⟨w2.heap.size, 1, none⟩ = some (.int .i64 b) := (hb3.cell (by simp <;> omega)).trans (by go_simp)
  have c_p_2 : w3.cell? ⟨w2.heap.size, 2, none⟩ = some (.int .i64 o) := (hb3.cell (by simp <;> omega)).trans (by go_simp)
  have z_p := World.block_lt_of_cell? _ _ c_p_0
  clear z_b
  have hB3 := below_two hB2 hs3
  clear hB2 hs3 hb3
  go_wp2_with fail
  have hR' := hR.below (hB3.alloc hB3.size (.cells #[.int .i64 t, .int .i64 c, .int .i64 p] 23))
  refine (text_any _ _ _ _ hR').mono ?_
  rintro e w4 ⟨rfl, hb4⟩
  clear hR'
  have hs4 : Below w3.heap.size w3 w4 := Below.trans (by repeat (first | exact Below.refl _ _ | refine Below.alloc ?_ (by simp <;> omega) _)) (hb4.mono (by simp <;> omega))
  replace c_p_0 := cell_later hs4 c_p_0
  replace c_p_1 := cell_later hs4 c_p_1
  replace c_p_2 := cell_later hs4 c_p_2
  have c_q_0 : w4.cell? ⟨w3.heap.size, 0, none⟩ = some (.int .i64 t) := (hb4.cell (by simp <;> omega)).trans (by go_simp)
  have c_q_1 : w4.cell? ⟨w3.heap.size, 1, none⟩ = some (.int .i64 c) := (hb4.cell (by simp <;> omega)).trans (by go_simp)
  have c_q_2 : w4.cell? ⟨w3.heap.size, 2, none⟩ = some (.int .i64 p) := (hb4.cell (by simp <;> omega)).trans (by go_simp)
  clear z_p
  have z_p := World.block_lt_of_cell? _ _ c_p_0
  have z_q := World.block_lt_of_cell? _ _ c_q_0
  have hB4 := below_two hB3 hs4
  clear hB3 hs4 hb4
  rw [HS.out.1, HS.out.2]
  go_wp2_with fail
  have hR' := hR.below hB4
  refine (text_any _ _ _ _ hR').mono ?_
  rintro e w5 ⟨rfl, hb5⟩
  clear hR'
  have hs5 := hb5
  replace c_p_0 := cell_later hs5 c_p_0
  replace c_p_1 := cell_later hs5 c_p_1
  replace c_p_2 := cell_later hs5 c_p_2
  replace c_q_0 := cell_later hs5 c_q_0
  replace c_q_1 := cell_later hs5 c_q_1
  replace c_q_2 := cell_later hs5 c_q_2
  clear z_p
  have z_p := World.block_lt_of_cell? _ _ c_p_0
  clear z_q
  have z_q := World.block_lt_of_cell? _ _ c_q_0
  have hB5 := below_two hB4 hs5
  clear hB4 hs5
  rw [HT.out.1, HT.out.2]
  go_wp2_with fail
  have hR' := hR.below hB5
  refine (read_any _ _ hR' (by rw [sz]; omega)).mono ?_
  rintro e w6 ⟨rfl, hb6⟩
  clear hR'
  have hs6 := hb6
  replace c_p_0 := cell_later hs6 c_p_0
  replace c_p_1 := cell_later hs6 c_p_1
  replace c_p_2 := cell_later hs6 c_p_2
  replace c_q_0 := cell_later hs6 c_q_0
  replace c_q_1 := cell_later hs6 c_q_1
  replace c_q_2 := cell_later hs6 c_q_2
  clear z_p
  have z_p := World.block_lt_of_cell? _ _ c_p_0
  clear z_q
  have z_q := World.block_lt_of_cell? _ _ c_q_0
  have hB6 := below_two hB5 hs6
  clear hB5 hs6
  rw [show (ByteArray.mk S.toArray).data.toList = S from rfl, HR.out]
  simp only [rdV]
  go_wp2
  go_ret
  exact ⟨ret_bool (decide_eq_true (by omega)), (hB6.alloc hB6.size (.cells #[.int .i64 s, .int .i64 b, .int .i64 o] 23))⟩

set_option maxRecDepth 100000 in
set_option maxHeartbeats 4000000 in
theorem back_other (a1 a2 a3 b1 b2 b3 s b o t c p : Int) (w : World) (hR : Ready w) (HA : Hid (∀ w, Calls Tryd.prog 13 #[pt a1 a2 a3] w fun e w' => e = .returned (pt s b o) ∧ Below w.heap.size w w')) (HB : Hid (∀ w, Calls Tryd.prog 13 #[pt b1 b2 b3] w fun e w' => e = .returned (pt t c p) ∧ Below w.heap.size w w')) (S T : List UInt8) (HS : Hid (txtV (Pit.right s b o) s b o = S ∧ errP (Pit.right s b o) = 0)) (HT : Hid (txtV (Pit.right t c p) t c p = T ∧ errP (Pit.right t c p) = 0)) (HR : Hid (Pit.rd S = some (s, b, o))) (l2 : 2 ≤ S.length) (l5 : S.length ≤ 5) (hST : (S == T) = false) (hpq : eqP s b o t c p = false) :
    Calls Tryd.prog 4 #[pt a1 a2 a3, pt b1 b2 b3] w fun e w' => e = .returned (.bool true) ∧ Below w.heap.size w w' := by
  have hgP := guardP
  have hgI := guardI
  have heP := eql_pt
  have heI := eql_iv
  have hnP := neq_pt
  have hsP := eqP_self
  have hsI := eqI_self
  have hsz : (⟨S.toArray⟩ : ByteArray).size = S.length := sz S
  have hB0 : Below w.heap.size w w := Below.refl _ _
  go_enter Tryd.func4, Tryd.ntmps4
  go_wp2_with fail
  have hR' := hR.below ((hB0.alloc hB0.size (.cells #[.int .i64 a1, .int .i64 a2, .int .i64 a3] 23)).alloc (hB0.alloc hB0.size (.cells #[.int .i64 a1, .int .i64 a2, .int .i64 a3] 23)).size (.cells #[.int .i64 b1, .int .i64 b2, .int .i64 b3] 23))
  refine (awake_any _ hR').mono ?_
  rintro e w1 ⟨rfl, hb1⟩
  clear hR'
  have hs1 : Below w.heap.size w w1 := Below.trans (by repeat (first | exact Below.refl _ _ | refine Below.alloc ?_ (by simp <;> omega) _)) (hb1.mono (by simp <;> omega))
  have c_a_0 : w1.cell? ⟨w.heap.size, 0, none⟩ = some (.int .i64 a1) := (hb1.cell (by simp <;> omega)).trans (by go_simp)
  have c_a_1 : w1.cell? ⟨w.heap.size, 1, none⟩ = some (.int .i64 a2) := (hb1.cell (by simp <;> omega)).trans (by go_simp)
  have c_a_2 : w1.cell? ⟨w.heap.size, 2, none⟩ = some (.int .i64 a3) := (hb1.cell (by simp <;> omega)).trans (by go_simp)
  have c_b_0 : w1.cell? ⟨w.heap.size + 1, 0, none⟩ = some (.int .i64 b1) := (hb1.cell (by simp <;> omega)).trans (by go_simp)
  have c_b_1 : w1.cell? ⟨w.heap.size + 1, 1, none⟩ = some (.int .i64 b2) := (hb1.cell (by simp <;> omega)).trans (by go_simp)
  have c_b_2 : w1.cell? ⟨w.heap.size + 1, 2, none⟩ = some (.int .i64 b3) := (hb1.cell (by simp <;> omega)).trans (by go_simp)
  have z_a := World.block_lt_of_cell? _ _ c_a_0
  have z_b := World.block_lt_of_cell? _ _ c_b_0
  have hB1 := below_two hB0 hs1
  clear hB0 hs1 hb1
  go_wp2_with fail
  have hR' := hR.below hB1
  refine (HA.out _).mono ?_
  rintro e w2 ⟨rfl, hb2⟩
  clear hR'
  have hs2 := hb2
  clear c_a_0
  clear c_a_1
  clear c_a_2
  replace c_b_0 := cell_later hs2 c_b_0
  replace c_b_1 := cell_later hs2 c_b_1
  replace c_b_2 := cell_later hs2 c_b_2
  clear z_b
  have z_b := World.block_lt_of_cell? _ _ c_b_0
  clear z_a
  have hB2 := below_two hB1 hs2
  clear hB1 hs2
  go_wp2_with fail
  have hR' := hR.below (hB2.alloc hB2.size (.cells #[.int .i64 s, .int .i64 b, .int .i64 o] 23))
  refine (HB.out _).mono ?_
  rintro e w3 ⟨rfl, hb3⟩
  clear hR'
  have hs3 : Below w2.heap.size w2 w3 := Below.trans (by repeat (first | exact Below.refl _ _ | refine Below.alloc ?_ (by simp <;> omega) _)) (hb3.mono (by simp <;> omega))
  clear c_b_0
  clear c_b_1
  clear c_b_2
  have c_p_0 : w3.cell? ⟨w2.heap.size, 0, none⟩ = some (.int .i64 s) := (hb3.cell (by simp <;> omega)).trans (by go_simp)
  have c_p_1 : w3.cell? ⟨w2.heap.size, 1, none⟩ = some (.int .i64 b) := (hb3.cell (by simp <;> omega)).trans (by go_simp)
  have c_p_2 : w3.cell? ⟨w2.heap.size, 2, none⟩ = some (.int .i64 o) := (hb3.cell (by simp <;> omega)).trans (by go_simp)
  have z_p := World.block_lt_of_cell? _ _ c_p_0
  clear z_b
  have hB3 := below_two hB2 hs3
  clear hB2 hs3 hb3
  go_wp2_with fail
  have hR' := hR.below (hB3.alloc hB3.size (.cells #[.int .i64 t, .int .i64 c, .int .i64 p] 23))
  refine (text_any _ _ _ _ hR').mono ?_
  rintro e w4 ⟨rfl, hb4⟩
  clear hR'
  have hs4 : Below w3.heap.size w3 w4 := Below.trans (by repeat (first | exact Below.refl _ _ | refine Below.alloc ?_ (by simp <;> omega) _)) (hb4.mono (by simp <;> omega))
  replace c_p_0 := cell_later hs4 c_p_0
  replace c_p_1 := cell_later hs4 c_p_1
  replace c_p_2 := cell_later hs4 c_p_2
  have c_q_0 : w4.cell? ⟨w3.heap.size, 0, none⟩ = some (.int .i64 t) := (hb4.cell (by simp <;> omega)).trans (by go_simp)
  have c_q_1 : w4.cell? ⟨w3.heap.size, 1, none⟩ = some (.int .i64 c) := (hb4.cell (by simp <;> omega)).trans (by go_simp)
  have c_q_2 : w4.cell? ⟨w3.heap.size, 2, none⟩ = some (.int .i64 p) := (hb4.cell (by simp <;> omega)).trans (by go_simp)
  clear z_p
  have z_p := World.block_lt_of_cell? _ _ c_p_0
  have z_q := World.block_lt_of_cell? _ _ c_q_0
  have hB4 := below_two hB3 hs4
  clear hB3 hs4 hb4
  rw [HS.out.1, HS.out.2]
  go_wp2_with fail
  have hR' := hR.below hB4
  refine (text_any _ _ _ _ hR').mono ?_
  rintro e w5 ⟨rfl, hb5⟩
  clear hR'
  have hs5 := hb5
  replace c_p_0 := cell_later hs5 c_p_0
  replace c_p_1 := cell_later hs5 c_p_1
  replace c_p_2 := cell_later hs5 c_p_2
  replace c_q_0 := cell_later hs5 c_q_0
  replace c_q_1 := cell_later hs5 c_q_1
  replace c_q_2 := cell_later hs5 c_q_2
  clear z_p
  have z_p := World.block_lt_of_cell? _ _ c_p_0
  clear z_q
  have z_q := World.block_lt_of_cell? _ _ c_q_0
  have hB5 := below_two hB4 hs5
  clear hB4 hs5
  rw [HT.out.1, HT.out.2]
  go_wp2_with fail
  have hR' := hR.below hB5
  refine (read_any _ _ hR' (by rw [sz]; omega)).mono ?_
  rintro e w6 ⟨rfl, hb6⟩
  clear hR'
  have hs6 := hb6
  replace c_p_0 := cell_later hs6 c_p_0
  replace c_p_1 := cell_later hs6 c_p_1
  replace c_p_2 := cell_later hs6 c_p_2
  replace c_q_0 := cell_later hs6 c_q_0
  replace c_q_1 := cell_later hs6 c_q_1
  replace c_q_2 := cell_later hs6 c_q_2
  clear z_p
  have z_p := World.block_lt_of_cell? _ _ c_p_0
  clear z_q
  have z_q := World.block_lt_of_cell? _ _ c_q_0
  have hB6 := below_two hB5 hs6
  clear hB5 hs6
  rw [show (ByteArray.mk S.toArray).data.toList = S from rfl, HR.out]
  simp only [rdV]
  go_wp2
  go_ret
  exact ⟨ret_bool (decide_eq_true (by omega)), (hB6.alloc hB6.size (.cells #[.int .i64 s, .int .i64 b, .int .i64 o] 23))⟩

theorem pitchBack_calls (a1 a2 a3 b1 b2 b3 : Int) (h1 : Pit.I64 a1) (h2 : Pit.I64 a2) (h3 : Pit.I64 a3) (i1 : Pit.I64 b1) (i2 : Pit.I64 b2) (i3 : Pit.I64 b3) (w : World) (hR : Ready w) : LawHolds 4 #[pt a1 a2 a3, pt b1 b2 b3] w := by
  obtain ⟨s, b, o, hr, hA⟩ := pitch_fix a1 a2 a3 h1 h2 h3
  obtain ⟨t, c, p, hq, hB⟩ := pitch_fix b1 b2 b3 i1 i2 i3
  have hS : txtV (Pit.right s b o) s b o = Pit.txt s b o ∧ errP (Pit.right s b o) = 0 := by rw [Pit.right_true hr]; exact ⟨rfl, rfl⟩
  have hT : txtV (Pit.right t c p) t c p = Pit.txt t c p ∧ errP (Pit.right t c p) = 0 := by rw [Pit.right_true hq]; exact ⟨rfl, rfl⟩
  obtain ⟨l2, l5⟩ := Pit.txt_len hr
  cases hpq : eqP s b o t c p with
  | true =>
    obtain ⟨rfl, rfl, rfl⟩ := (eqP_iff _ _ _ _ _ _).1 hpq
    exact back_same a1 a2 a3 b1 b2 b3 s b o s b o w hR (Lib.hid hA) (Lib.hid hB) _ _ (Lib.hid hS) (Lib.hid hT) (Lib.hid (Pit.rd_txt hr)) l2 l5 (by simp) hpq
  | false =>
    have hST : (Pit.txt s b o == Pit.txt t c p) = false := by
      cases h : (Pit.txt s b o == Pit.txt t c p) with
      | false => rfl
      | true =>
        have := (eqP_iff _ _ _ _ _ _).2 (Pit.txt_inj hr hq (by simpa using h))
        rw [hpq] at this
        cases this
    exact back_other a1 a2 a3 b1 b2 b3 s b o t c p w hR (Lib.hid hA) (Lib.hid hB) _ _ (Lib.hid hS) (Lib.hid hT) (Lib.hid (Pit.rd_txt hr)) l2 l5 hST hpq
end Go.Proofs.YtoopchnncjfjoaaDoor
