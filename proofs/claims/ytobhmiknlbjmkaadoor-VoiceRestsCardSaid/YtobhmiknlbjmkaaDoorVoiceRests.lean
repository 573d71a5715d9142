/-
  VoiceRests answers true: the law's walk.
-/
import Derived.Test.YtobhmiknlbjmkaaDoorVoReM
import Derived.Deep.CutBlock
import Derived.Deep.DeepCutAuto
namespace Go.Proofs.YtobhmiknlbjmkaaDoor
open Go.RowKit
open Evt (P3 Ev)

set_option maxRecDepth 100000 in
set_option maxHeartbeats 40000000 in
theorem rests_law (num den a b n d x y : Int) (i k : Nat) (ys : List EM) (w : World) (hR : Spl.Vars w) (ia : Rat.I64 num) (ib : Rat.I64 den) (HA : Hid (pickS num 32 = a)) (HB : Hid (pickS den 7 = b)) (HN : Hid (IntKind.i64.wrap (1 + a) = n)) (hb0 : 0 ≤ b) (hb7 : b < 7) (HD : Hid ((b = 0 ∧ d = 1) ∨ (b = 1 ∧ d = 2) ∨ (b = 2 ∧ d = 4) ∨ (b = 3 ∧ d = 8) ∨ (b = 4 ∧ d = 16) ∨ (b = 5 ∧ d = 32) ∨ (b = 6 ∧ d = 64))) (HO : Hid (RestOk n d x y i k ys)) :
    Calls Tryd.prog 6 #[.int .i64 num, .int .i64 den] w fun ed w' => ed = .returned (.bool true) ∧ Below w.heap.size w w' := by
  have hgR := guardR
  have heR := eql_rt
  have hsR := eqR_self
  have hB0 : Below w.heap.size w w := Below.refl _ _
  go_enter Tryd.func6, Tryd.ntmps6
  go_wp2_with fail
  have hR' := hR.below hB0
  refine (examples_any _ hR').mono ?_
  rintro e w1 ⟨rfl, hb1⟩
  clear hR'
  have hs1 := hb1
  have hB1 := below_two hB0 hs1
  clear hB0 hs1
  go_wp2_with fail
  have hR' := hR.below hB1
  refine (pick_is ia (by decide) (by decide) HA.out _).mono ?_
  rintro e w2 ⟨rfl, hb2⟩
  clear hR'
  have hs2 := hb2
  have hB2 := below_two hB1 hs2
  clear hB1 hs2
  have hn := HN.out
  go_wp2_with fail
  have hR' := hR.below (hB2.alloc hB2.size (.cells #[.int .i64 1, .int .i64 2, .int .i64 4, .int .i64 8, .int .i64 16, .int .i64 32, .int .i64 64] 3))
  refine (pick_is ib (by decide) (by decide) HB.out _).mono ?_
  rintro e w3 ⟨rfl, hb3⟩
  clear hR'
  have hs3 : Below w2.heap.size w2 w3 := Below.trans (by repeat (first | exact Below.refl _ _ | refine Below.alloc ?_ (by simp <;> omega) _)) (hb3.mono (by simp <;> omega))
  have c_s_0 : w3.cell? ⟨w2.heap.size, 0, none⟩ = some (.int .i64 1) := (hb3.cell (by simp <;> omega)).trans (by go_simp)
  have c_s_1 : w3.cell? ⟨w2.heap.size, 1, none⟩ = some (.int .i64 2) := (hb3.cell (by simp <;> omega)).trans (by go_simp)
  have c_s_2 : w3.cell? ⟨w2.heap.size, 2, none⟩ = some (.int .i64 4) := (hb3.cell (by simp <;> omega)).trans (by go_simp)
  have c_s_3 : w3.cell? ⟨w2.heap.size, 3, none⟩ = some (.int .i64 8) := (hb3.cell (by simp <;> omega)).trans (by go_simp)
  have c_s_4 : w3.cell? ⟨w2.heap.size, 4, none⟩ = some (.int .i64 16) := (hb3.cell (by simp <;> omega)).trans (by go_simp)
  have c_s_5 : w3.cell? ⟨w2.heap.size, 5, none⟩ = some (.int .i64 32) := (hb3.cell (by simp <;> omega)).trans (by go_simp)
  have c_s_6 : w3.cell? ⟨w2.heap.size, 6, none⟩ = some (.int .i64 64) := (hb3.cell (by simp <;> omega)).trans (by go_simp)
  have z_s : w2.heap.size < _ := World.block_lt_of_cell? _ _ c_s_0
  have hB3 := below_two hB2 hs3
  clear hB2 hs3 hb3
  have cs_b : w3.cell? ⟨w2.heap.size, b.toNat, none⟩ = some (.int .i64 d) := by
    rcases HD.out with h | h | h | h | h | h | h
    · rw [h.1, h.2]; exact c_s_0
    · rw [h.1, h.2]; exact c_s_1
    · rw [h.1, h.2]; exact c_s_2
    · rw [h.1, h.2]; exact c_s_3
    · rw [h.1, h.2]; exact c_s_4
    · rw [h.1, h.2]; exact c_s_5
    · rw [h.1, h.2]; exact c_s_6
  have hbn : b.toNat < 7 := by omega
  clear c_s_0 c_s_1 c_s_2 c_s_3 c_s_4 c_s_5 c_s_6
  have hwm : w.heap.size ≤ w3.heap.size := hB3.size
  go_wp2_with fail
  have hR' := hR.below (hB3.alloc hB3.size (.cells #[.int .i64 n, .int .i64 d, .slice none 0 0] 61))
  refine (rests_ok HO.out HO.out.r0 _ _ (Sl.none _ _ _) hR').mono ?_
  rintro e w4 ⟨⟨pv, cv, rfl, hev, hov⟩, hb4⟩
  clear hR'
  have y4_s := z_s
  have hs4 : Below w3.heap.size w3 w4 := Below.trans (by repeat (first | exact Below.refl _ _ | refine Below.alloc ?_ (by simp <;> omega) _)) (hb4.mono (by simp <;> omega))
  replace cs_b := cell_later hs4 cs_b
  have c_m_0 : w4.cell? ⟨w3.heap.size, 0, none⟩ = some (.int .i64 n) := (hb4.cell (by simp <;> omega)).trans (by go_simp)
  have f_m_0 : w4.frozen? ⟨w3.heap.size, 0, none⟩ = false := (hb4.frozen (by simp <;> omega)).trans (by go_simp)
  have c_m_1 : w4.cell? ⟨w3.heap.size, 1, none⟩ = some (.int .i64 d) := (hb4.cell (by simp <;> omega)).trans (by go_simp)
  have f_m_1 : w4.frozen? ⟨w3.heap.size, 1, none⟩ = false := (hb4.frozen (by simp <;> omega)).trans (by go_simp)
  have c_m_2 : w4.cell? ⟨w3.heap.size, 2, none⟩ = some (.slice none 0 0) := (hb4.cell (by simp <;> omega)).trans (by go_simp)
  have f_m_2 : w4.frozen? ⟨w3.heap.size, 2, none⟩ = false := (hb4.frozen (by simp <;> omega)).trans (by go_simp)
  have z_m : w3.heap.size < _ := World.block_lt_of_cell? _ _ c_m_0
  clear z_s
  have z_s : w2.heap.size < _ := World.block_lt_of_cell? _ _ cs_b
  have hB4 := below_two hB3 hs4
  clear hB3 hs4 hb4
  have HEV := Lib.hid hev
  have HOV := Lib.hid hov
  clear hev hov
  clear cs_b z_s
  go_wp2_with fail
  have hR' := hR.below (hB4.alloc hB4.size (.cells #[.slice pv k cv] 26))
  refine (vlength_is HO.out.en _ _ (HEV.out.later (by repeat (first | exact Below.refl _ _ | refine Below.alloc ?_ (by simp <;> omega) _))) hR'.lib).mono ?_
  rintro e w5 ⟨rfl, hb5⟩
  clear hR'
  have y5_m := z_m
  have hs5 : Below w4.heap.size w4 w5 := Below.trans (by repeat (first | exact Below.refl _ _ | refine Below.alloc ?_ (by simp <;> omega) _)) (hb5.mono (by simp <;> omega))
  replace HEV := Lib.hid (HEV.out.later hs5)
  replace f_m_0 := frozen_later hs5 c_m_0 f_m_0
  replace c_m_0 := cell_later hs5 c_m_0
  replace f_m_1 := frozen_later hs5 c_m_1 f_m_1
  replace c_m_1 := cell_later hs5 c_m_1
  replace f_m_2 := frozen_later hs5 c_m_2 f_m_2
  replace c_m_2 := cell_later hs5 c_m_2
  have c_v_0 : w5.cell? ⟨w4.heap.size, 0, none⟩ = some (.slice pv k cv) := (hb5.cell (by simp <;> omega)).trans (by go_simp)
  clear z_m
  have z_m : w3.heap.size < _ := World.block_lt_of_cell? _ _ c_m_0
  have z_v : w4.heap.size < _ := World.block_lt_of_cell? _ _ c_v_0
  have hB5 := below_two hB4 hs5
  clear hB4 hs5 hb5
  go_wp2_with fail
  have hR' := hR.below (hB5.alloc hB5.size (.cells #[.int .i64 x, .int .i64 y] 36))
  refine (mlen_ok HO.out _ _ (Sl.none _ _ _)).mono ?_
  rintro e w6 ⟨rfl, hb6⟩
  clear hR'
  have y6_m := z_m
  have y6_v := z_v
  have hs6 : Below w5.heap.size w5 w6 := Below.trans (by repeat (first | exact Below.refl _ _ | refine Below.alloc ?_ (by simp <;> omega) _)) (hb6.mono (by simp <;> omega))
  replace HEV := Lib.hid (HEV.out.later hs6)
  replace f_m_0 := frozen_later hs6 c_m_0 f_m_0
  replace c_m_0 := cell_later hs6 c_m_0
  replace f_m_1 := frozen_later hs6 c_m_1 f_m_1
  replace c_m_1 := cell_later hs6 c_m_1
  replace f_m_2 := frozen_later hs6 c_m_2 f_m_2
  replace c_m_2 := cell_later hs6 c_m_2
  replace c_v_0 := cell_later hs6 c_v_0
  have c_l_0 : w6.cell? ⟨w5.heap.size, 0, none⟩ = some (.int .i64 x) := (hb6.cell (by simp <;> omega)).trans (by go_simp)
  have c_l_1 : w6.cell? ⟨w5.heap.size, 1, none⟩ = some (.int .i64 y) := (hb6.cell (by simp <;> omega)).trans (by go_simp)
  have z_l : w5.heap.size < _ := World.block_lt_of_cell? _ _ c_l_0
  clear z_m
  have z_m : w3.heap.size < _ := World.block_lt_of_cell? _ _ c_m_0
  clear z_v
  have z_v : w4.heap.size < _ := World.block_lt_of_cell? _ _ c_v_0
  have hB6 := below_two hB5 hs6
  clear hB5 hs6 hb6
  go_wp2_with fail
  have hR' := hR.below (hB6.alloc hB6.size (.cells #[.int .i64 x, .int .i64 y] 36))
  refine (vsounds_ok (l := []) HO.out.er (by rw [HO.out.rn]; rfl) (by rw [HO.out.rn]; rfl) _ _ (HEV.out.later (by repeat (first | exact Below.refl _ _ | refine Below.alloc ?_ (by simp <;> omega) _))) hR'.lib).mono ?_
  rintro e w7 ⟨⟨po, co, mm, rfl, _, _⟩, hb7⟩
  clear hR'
  have y7_l := z_l
  have y7_m := z_m
  have y7_v := z_v
  have hs7 : Below w6.heap.size w6 w7 := Below.trans (by repeat (first | exact Below.refl _ _ | refine Below.alloc ?_ (by simp <;> omega) _)) (hb7.mono (by simp <;> omega))
  replace HEV := Lib.hid (HEV.out.later hs7)
  replace f_m_0 := frozen_later hs7 c_m_0 f_m_0
  replace c_m_0 := cell_later hs7 c_m_0
  replace f_m_1 := frozen_later hs7 c_m_1 f_m_1
  replace c_m_1 := cell_later hs7 c_m_1
  replace f_m_2 := frozen_later hs7 c_m_2 f_m_2
  replace c_m_2 := cell_later hs7 c_m_2
  replace c_v_0 := cell_later hs7 c_v_0
  replace c_l_0 := cell_later hs7 c_l_0
  replace c_l_1 := cell_later hs7 c_l_1
  have c_t_0 : w7.cell? ⟨w6.heap.size, 0, none⟩ = some (.int .i64 x) := (hb7.cell (by simp <;> omega)).trans (by go_simp)
  have c_t_1 : w7.cell? ⟨w6.heap.size, 1, none⟩ = some (.int .i64 y) := (hb7.cell (by simp <;> omega)).trans (by go_simp)
  clear z_l
  have z_l : w5.heap.size < _ := World.block_lt_of_cell? _ _ c_l_0
  clear z_m
  have z_m : w3.heap.size < _ := World.block_lt_of_cell? _ _ c_m_0
  have z_t : w6.heap.size < _ := World.block_lt_of_cell? _ _ c_t_0
  clear z_v
  have z_v : w4.heap.size < _ := World.block_lt_of_cell? _ _ c_v_0
  have hB7 := below_two hB6 hs7
  clear hB6 hs7 hb7
  go_wp2_with fail
  have hR' := hR.below hB7
  refine (check_is HO.out.ck _ _ HEV.out hR'.lib).mono ?_
  rintro e w8 ⟨rfl, hb8⟩
  clear hR'
  have hs8 := hb8
  replace HEV := Lib.hid (HEV.out.later hs8)
  replace f_m_0 := frozen_later hs8 c_m_0 f_m_0
  replace c_m_0 := cell_later hs8 c_m_0
  replace f_m_1 := frozen_later hs8 c_m_1 f_m_1
  replace c_m_1 := cell_later hs8 c_m_1
  replace f_m_2 := frozen_later hs8 c_m_2 f_m_2
  replace c_m_2 := cell_later hs8 c_m_2
  replace c_v_0 := cell_later hs8 c_v_0
  replace c_l_0 := cell_later hs8 c_l_0
  replace c_l_1 := cell_later hs8 c_l_1
  replace c_t_0 := cell_later hs8 c_t_0
  replace c_t_1 := cell_later hs8 c_t_1
  clear z_l
  have z_l : w5.heap.size < _ := World.block_lt_of_cell? _ _ c_l_0
  clear z_m
  have z_m : w3.heap.size < _ := World.block_lt_of_cell? _ _ c_m_0
  clear z_t
  have z_t : w6.heap.size < _ := World.block_lt_of_cell? _ _ c_t_0
  clear z_v
  have z_v : w4.heap.size < _ := World.block_lt_of_cell? _ _ c_v_0
  have hB8 := below_two hB7 hs8
  clear hB7 hs8
  go_upto_region 11 with fail
  have n_c_m_0 := alloc_cell (o := .cells #[.int .i64 n] 3) (set_beside (B := w3.heap.size) (o := 2) (x := .slice (some ⟨w8.heap.size, 0, none⟩) 1 1) (by decide) c_m_0)
  have n_c_m_1 := alloc_cell (o := .cells #[.int .i64 n] 3) (set_beside (B := w3.heap.size) (o := 2) (x := .slice (some ⟨w8.heap.size, 0, none⟩) 1 1) (by decide) c_m_1)
  have n_c_m_2 : ((w8.setCell ⟨w3.heap.size, 2, none⟩ (.slice (some ⟨w8.heap.size, 0, none⟩) 1 1)).alloc (.cells #[.int .i64 n] 3)).cell? ⟨w3.heap.size, 2, none⟩ = some (.slice (some ⟨w8.heap.size, 0, none⟩) 1 1) := alloc_cell (set_same (held_of c_m_2))
  have n_c_v_0 := alloc_cell (o := .cells #[.int .i64 n] 3) (set_far (B := w3.heap.size) (o := 2) (x := .slice (some ⟨w8.heap.size, 0, none⟩) 1 1) (by omega) c_v_0)
  have n_c_l_0 := alloc_cell (o := .cells #[.int .i64 n] 3) (set_far (B := w3.heap.size) (o := 2) (x := .slice (some ⟨w8.heap.size, 0, none⟩) 1 1) (by omega) c_l_0)
  have n_c_l_1 := alloc_cell (o := .cells #[.int .i64 n] 3) (set_far (B := w3.heap.size) (o := 2) (x := .slice (some ⟨w8.heap.size, 0, none⟩) 1 1) (by omega) c_l_1)
  have n_c_t_0 := alloc_cell (o := .cells #[.int .i64 n] 3) (set_far (B := w3.heap.size) (o := 2) (x := .slice (some ⟨w8.heap.size, 0, none⟩) 1 1) (by omega) c_t_0)
  have n_c_t_1 := alloc_cell (o := .cells #[.int .i64 n] 3) (set_far (B := w3.heap.size) (o := 2) (x := .slice (some ⟨w8.heap.size, 0, none⟩) 1 1) (by omega) c_t_1)
  have c_g_0 : ((w8.setCell ⟨w3.heap.size, 2, none⟩ (.slice (some ⟨w8.heap.size, 0, none⟩) 1 1)).alloc (.cells #[.int .i64 n] 3)).cell? ⟨w8.heap.size, 0, none⟩ = some (.int .i64 n) := by have := cell_of_cells (block_new (w8.setCell ⟨w3.heap.size, 2, none⟩ (.slice (some ⟨w8.heap.size, 0, none⟩) 1 1)) (.cells #[.int .i64 n] 3)) (j := 0) rfl; simpa using this
  have hBs : Below w.heap.size w (w8.setCell ⟨w3.heap.size, 2, none⟩ (.slice (some ⟨w8.heap.size, 0, none⟩) 1 1)) := set1_below hB8 (by omega)
  have hB9 : Below w.heap.size w ((w8.setCell ⟨w3.heap.size, 2, none⟩ (.slice (some ⟨w8.heap.size, 0, none⟩) 1 1)).alloc (.cells #[.int .i64 n] 3)) := hBs.alloc hBs.size _
  have HEV2 : Hid (Evs ((w8.setCell ⟨w3.heap.size, 2, none⟩ (.slice (some ⟨w8.heap.size, 0, none⟩) 1 1)).alloc (.cells #[.int .i64 n] 3)) (.slice pv k cv) ys) := Lib.hid (rests_kept HO.out HEV.out HOV.out (by simp))
  clear c_m_0 c_m_1 c_m_2 c_v_0 c_l_0 c_l_1 c_t_0 c_t_1 f_m_0 f_m_1 f_m_2 hB8 hBs HEV z_l z_m z_t z_v
  have c_m_0 := n_c_m_0
  clear n_c_m_0
  have c_m_1 := n_c_m_1
  clear n_c_m_1
  have c_m_2 := n_c_m_2
  clear n_c_m_2
  have c_v_0 := n_c_v_0
  clear n_c_v_0
  have c_l_0 := n_c_l_0
  clear n_c_l_0
  have c_l_1 := n_c_l_1
  clear n_c_l_1
  have c_t_0 := n_c_t_0
  clear n_c_t_0
  have c_t_1 := n_c_t_1
  clear n_c_t_1
  have HEV := HEV2
  clear HEV2
  have hzg : w8.heap.size < ((w8.setCell ⟨w3.heap.size, 2, none⟩ (.slice (some ⟨w8.heap.size, 0, none⟩) 1 1)).alloc (.cells #[.int .i64 n] 3)).heap.size := by simp
  generalize hE : ((w8.setCell ⟨w3.heap.size, 2, none⟩ (.slice (some ⟨w8.heap.size, 0, none⟩) 1 1)).alloc (.cells #[.int .i64 n] 3)) = w9 at *
  clear hE
  have z_g : w8.heap.size < _ := World.block_lt_of_cell? _ _ c_g_0
  have z_l : w5.heap.size < _ := World.block_lt_of_cell? _ _ c_l_0
  have z_m : w3.heap.size < _ := World.block_lt_of_cell? _ _ c_m_0
  have z_t : w6.heap.size < _ := World.block_lt_of_cell? _ _ c_t_0
  have z_v : w4.heap.size < _ := World.block_lt_of_cell? _ _ c_v_0
  go_wp2_with fail
  have hR' := hR.below hB9
  refine (rests_ok HO.out HO.out.r1 (.slice (some ⟨w8.heap.size, 0, none⟩) 1 1) _ (ints_one c_g_0) hR').mono ?_
  rintro e w10 ⟨⟨pw, cw, rfl, hev, _⟩, hb10⟩
  clear hR'
  have hs10 := hb10
  replace HEV := Lib.hid (HEV.out.later hs10)
  replace c_m_0 := cell_later hs10 c_m_0
  replace c_m_1 := cell_later hs10 c_m_1
  replace c_m_2 := cell_later hs10 c_m_2
  replace c_v_0 := cell_later hs10 c_v_0
  replace c_l_0 := cell_later hs10 c_l_0
  replace c_l_1 := cell_later hs10 c_l_1
  replace c_t_0 := cell_later hs10 c_t_0
  replace c_t_1 := cell_later hs10 c_t_1
  replace c_g_0 := cell_later hs10 c_g_0
  clear z_g
  have z_g : w8.heap.size < _ := World.block_lt_of_cell? _ _ c_g_0
  clear z_l
  have z_l : w5.heap.size < _ := World.block_lt_of_cell? _ _ c_l_0
  clear z_m
  have z_m : w3.heap.size < _ := World.block_lt_of_cell? _ _ c_m_0
  clear z_t
  have z_t : w6.heap.size < _ := World.block_lt_of_cell? _ _ c_t_0
  clear z_v
  have z_v : w4.heap.size < _ := World.block_lt_of_cell? _ _ c_v_0
  have hB10 := below_two hB9 hs10
  clear hB9 hs10
  have HEW := Lib.hid hev
  clear hev
  go_upto_region 12 with fail
  have hs11 : Below w10.heap.size w10 (w10.alloc (.cells #[.slice pw k cw] 26)) := by repeat (first | exact Below.refl _ _ | refine Below.alloc ?_ (by simp <;> omega) _)
  replace HEV := Lib.hid (HEV.out.later hs11)
  replace HEW := Lib.hid (HEW.out.later hs11)
  replace c_m_0 := cell_later hs11 c_m_0
  replace c_m_1 := cell_later hs11 c_m_1
  replace c_m_2 := cell_later hs11 c_m_2
  replace c_v_0 := cell_later hs11 c_v_0
  replace c_l_0 := cell_later hs11 c_l_0
  replace c_l_1 := cell_later hs11 c_l_1
  replace c_t_0 := cell_later hs11 c_t_0
  replace c_t_1 := cell_later hs11 c_t_1
  replace c_g_0 := cell_later hs11 c_g_0
  have c_w_0 : (w10.alloc (.cells #[.slice pw k cw] 26)).cell? ⟨w10.heap.size, 0, none⟩ = some (.slice pw k cw) := by go_simp
  have hB11 := below_two hB10 hs11
  clear hB10 hs11
  have y11_g := z_g
  have y11_l := z_l
  have y11_m := z_m
  have y11_t := z_t
  have y11_v := z_v
  generalize (w10.alloc (.cells #[.slice pw k cw] 26)) = w11 at *
  clear z_g
  have z_g : w8.heap.size < _ := World.block_lt_of_cell? _ _ c_g_0
  clear z_l
  have z_l : w5.heap.size < _ := World.block_lt_of_cell? _ _ c_l_0
  clear z_m
  have z_m : w3.heap.size < _ := World.block_lt_of_cell? _ _ c_m_0
  clear z_t
  have z_t : w6.heap.size < _ := World.block_lt_of_cell? _ _ c_t_0
  clear z_v
  have z_v : w4.heap.size < _ := World.block_lt_of_cell? _ _ c_v_0
  have z_w : w10.heap.size < _ := World.block_lt_of_cell? _ _ c_w_0
  have HYL := Lib.hid (rest_kind HO.out).2
  have HKK := Lib.hid (rest_kind HO.out).1
  have hk64 := HO.out.k64
  go_wp2
  go_loopw [19] (fun i wr => ∃ j : Nat, j ≤ k ∧ i = .int .i64 (j : Int) ∧ Below w11.heap.size w11 wr) (fun i _ => k - (intOf i).toNat)
  case atStart => exact ⟨0, Nat.zero_le _, rfl, Below.refl _ _⟩
  case round =>
    obtain ⟨j, hj, rfl, hB⟩ := hrel
    have hBw := below_two hB11 hB
    have d_v := cell_later hB c_v_0
    have zv : w4.heap.size < wr.heap.size := World.block_lt_of_cell? _ _ d_v
    by_cases hlt : j < k
    · have hltI : (j : Int) < (k : Int) := by omega
      have hly : j < ys.length := by rw [HYL.out]; exact hlt
      obtain ⟨y, hy⟩ : ∃ y, ys[j]? = some y := ⟨_, List.getElem?_eq_getElem (by omega)⟩
      have hyR := HEV.out.each y (List.mem_of_getElem? hy)
      obtain ⟨p1, c1, p2, c2, p3, c3, hys⟩ := evs_shape hyR
      have hat := evs_at HEV.out hy
      generalize y.1 = x at *
      subst hys
      obtain ⟨kd, ps, ts, b_, d_, n_, e0, ms, str⟩ := x
      obtain ⟨b1, o1, e1, hc0, hc1, hc2, hc3, hc4, hc5, hc6, hc7, hc8⟩ := hat
      cases e1
      dsimp only at hyR hc0 hc1 hc2 hc3 hc4 hc5 hc6 hc7 hc8
      have HY := Lib.hid hy
      have HYR := Lib.hid hyR
      clear hy hyR
      replace hc0 := cell_later hB hc0
      replace hc1 := cell_later hB hc1
      replace hc2 := cell_later hB hc2
      replace hc3 := cell_later hB hc3
      replace hc4 := cell_later hB hc4
      replace hc5 := cell_later hB hc5
      replace hc6 := cell_later hB hc6
      replace hc7 := cell_later hB hc7
      replace hc8 := cell_later hB hc8
      obtain ⟨hk0, hrx⟩ := HKK.out _ (List.mem_of_getElem? HY.out)
      dsimp only at hk0 hrx
      subst hk0
      have HRX := Lib.hid hrx
      have HER := Lib.hid (HYR.out.later hB)
      clear hrx
      go_wp2_with fail
      refine (eright_is HRX.out _ _ _ _ HER.out (hR.below hBw).lib).mono ?_
      rintro e w9 ⟨rfl, hb9⟩
      have hB9 := below_two hB hb9
      go_wp2
      go_roundw
      case rel => exact ⟨j + 1, by omega, by go_num, hB9⟩
      case measure => simp [intOf]; omega
    · obtain rfl : j = k := by omega
      have hge : ¬ (j : Int) < (j : Int) := by omega
      have d_l_0 := cell_later hB c_l_0
      have d_l_1 := cell_later hB c_l_1
      have d_t_0 := cell_later hB c_t_0
      have d_t_1 := cell_later hB c_t_1
      have d_w := cell_later hB c_w_0
      have HEV9 := Lib.hid (HEV.out.later hB)
      have HEW9 := Lib.hid (HEW.out.later hB)
      have hj0 : (0 : Int) < (j : Int) := by have := HO.out.k1; omega
      go_wp2_with fail
      refine (vsame_is (same_self _) _ _ _ HEV9.out HEW9.out).mono ?_
      rintro e w9 ⟨rfl, hb9⟩
      have e_v := cell_later hb9 d_v
      go_wp2
      go_ret
      exact ⟨ret_bool (decide_eq_true (by omega)), below_two hBw hb9⟩

theorem rests_any (num den : Int) (w : World) (hR : Spl.Vars w) (ia : Rat.I64 num) (ib : Rat.I64 den) : Calls Tryd.prog 6 #[.int .i64 num, .int .i64 den] w fun ed w' => ed = .returned (.bool true) ∧ Below w.heap.size w w' := by
  obtain ⟨a0, a1⟩ := pickS_bounds num (n := 32) (by decide)
  obtain ⟨b0, b1⟩ := pickS_bounds den (n := 7) (by decide)
  refine rests_law num den (pickS num 32) (pickS den 7) (1 + pickS num 32) (mden (pickS den 7).toNat) _ _ _ _ _ w hR ia ib (Lib.hid rfl) (Lib.hid rfl) (Lib.hid ?_) b0 b1 (Lib.hid ?_) (Lib.hid (rest_ok ⟨a0, a1⟩ ⟨b0, b1⟩))
  · exact IntWalk.i64_in _ (by omega)
  · generalize pickS den 7 = b at *
    obtain rfl | rfl | rfl | rfl | rfl | rfl | rfl : b = 0 ∨ b = 1 ∨ b = 2 ∨ b = 3 ∨ b = 4 ∨ b = 5 ∨ b = 6 := by omega
    all_goals decide
end Go.Proofs.YtobhmiknlbjmkaaDoor
