/-
  The contract of the law's awake.
-/
import Derived.Test.YtnfnonlbokddfaaDoorEvRm
namespace Go.Proofs.YtnfnonlbokddfaaDoor
open Go.RowKit
open Evt (P3 Ev)

set_option maxRecDepth 100000 in
set_option maxHeartbeats 40000000 in
theorem awake_any (w : World) (hR : Ready w) :
    Calls Tryd.prog 12 #[] w fun ed w' => ed = .returned (.bool true) ∧ Below w.heap.size w w' := by
  have hgV := guardV
  have hgR := guardR
  have heR := eql_rt
  have hB0 : Below w.heap.size w w := Below.refl _ _
  go_enter Tryd.func12, Tryd.ntmps12
  go_wp2_with fail
  have hR' := hR.below hB0
  refine (c_any 2 false _).mono ?_
  rintro e w1 ⟨⟨p1, q1, r1, s1, rfl, he1⟩, hb1⟩
  clear hR'
  have hs1 := hb1
  have hB1 := below_two hB0 hs1
  clear hB0 hs1
  have HE1 := Lib.hid he1
  clear he1
  go_wp2_with fail
  have hR' := hR.below hB1
  refine (c_any 0 true _).mono ?_
  rintro e w2 ⟨⟨p2, q2, r2, s2, rfl, he2⟩, hb2⟩
  clear hR'
  have hs2 := hb2
  replace HE1 := Lib.hid (HE1.out.later hs2)
  have hB2 := below_two hB1 hs2
  clear hB1 hs2
  have HE2 := Lib.hid he2
  clear he2
  go_wp2_with fail
  have hR' := hR.below (hB2.alloc hB2.size (.cells #[.int .i64 1, .slice p1 1 q1, .slice r1 1 s1, .int .i64 2, .int .i64 0, .int .i64 0, .int .i64 0, .slice none 0 0, .string ⟨#[]⟩, .int .i64 1, .slice p2 1 q2, .slice r2 1 s2, .int .i64 2, .int .i64 0, .int .i64 0, .int .i64 0, .slice none 0 0, .string ⟨#[]⟩] 28))
  have HEVS : Evs (w2.alloc (.cells #[.int .i64 1, .slice p1 1 q1, .slice r1 1 s1, .int .i64 2, .int .i64 0, .int .i64 0, .int .i64 0, .slice none 0 0, .string ⟨#[]⟩, .int .i64 1, .slice p2 1 q2, .slice r2 1 s2, .int .i64 2, .int .i64 0, .int .i64 0, .int .i64 0, .slice none 0 0, .string ⟨#[]⟩] 28)) (.slice (some ⟨w2.heap.size, 0, none⟩) 2 2) [((evC 2 false ⟨#[]⟩, .slice p1 1 q1, .slice r1 1 s1, .slice none 0 0) : EM), ((evC 0 true ⟨#[]⟩, .slice p2 1 q2, .slice r2 1 s2, .slice none 0 0) : EM)] := evs_new (w := w2) (ys := [((evC 2 false ⟨#[]⟩, .slice p1 1 q1, .slice r1 1 s1, .slice none 0 0) : EM), ((evC 0 true ⟨#[]⟩, .slice p2 1 q2, .slice r2 1 s2, .slice none 0 0) : EM)]) (by simp) (fun z hz => by
    rcases List.mem_cons.1 hz with rfl | hz
    · exact HE1.out
    · rcases List.mem_cons.1 hz with rfl | hz
      · exact HE2.out
      · cases hz)
  refine (chord_is (ys := [((evC 2 false ⟨#[]⟩, .slice p1 1 q1, .slice r1 1 s1, .slice none 0 0) : EM), ((evC 0 true ⟨#[]⟩, .slice p2 1 q2, .slice r2 1 s2, .slice none 0 0) : EM)]) aw_chord _ _ HEVS (by simp) hR').mono ?_
  rintro e w3 ⟨vp, vt, vm, rfl, hev, hb3⟩
  clear hR'
  have hs3 : Below w2.heap.size w2 w3 := Below.trans (by repeat (first | exact Below.refl _ _ | refine Below.alloc ?_ (by simp <;> omega) _)) (hb3.mono (by simp <;> omega))
  replace HE1 := Lib.hid (HE1.out.later hs3)
  replace HE2 := Lib.hid (HE2.out.later hs3)
  have hB3 := below_two hB2 hs3
  clear hB2 hs3 hb3
  dsimp only at hev
  obtain ⟨p3, c3, e3, _⟩ := sl_shape hev.ps
  have e3 : vp = .slice p3 2 c3 := e3
  obtain ⟨p4, c4, e4, _⟩ := sl_shape hev.ts
  have e4 : vt = .slice p4 2 c4 := e4
  obtain ⟨p5, c5, e5, _⟩ := sl_shape hev.ms
  have e5 : vm = .slice p5 0 c5 := e5
  subst e3 e4 e5
  obtain ⟨b6, o6, e6, hx0, -, -⟩ := pits_at hev.ps (i := 0) rfl
  obtain ⟨b7, o7, e7, ht0⟩ := bools_at hev.ts (i := 0) rfl
  obtain ⟨b8, o8, e8, ht1⟩ := bools_at hev.ts (i := 1) rfl
  subst e6 e7
  cases e8
  rw [Nat.zero_mul, Nat.add_zero] at hx0
  rw [Nat.add_zero] at ht0
  dsimp only at hx0
  have HEV := Lib.hid hev
  clear hev HEVS
  go_wp2_with fail
  have hR' := hR.below (hB3.alloc hB3.size (.cells #[.int .i64 1, .slice (some ⟨b6, o6, none⟩) 2 c3, .slice (some ⟨b7, o7, none⟩) 2 c4, .int .i64 2, .int .i64 0, .int .i64 0, .int .i64 0, .slice p5 0 c5, .string ⟨#[]⟩] 28))
  refine (elength_yes ⟨1, [(0, 0, 4), (2, 0, 4)], [true, false], 2, 0, 0, 0, [], ⟨#[]⟩⟩ _ _ _ _ 1 4 0 (HEV.out.later (by repeat (first | exact Below.refl _ _ | refine Below.alloc ?_ (by simp <;> omega) _))) hR' (Lib.hid aw_right) (Lib.hid aw_N) (Lib.hid aw_D) (Lib.hid aw_E)).mono ?_
  rintro e w4 ⟨rfl, hb4⟩
  clear hR'
  have hs4 : Below w3.heap.size w3 w4 := Below.trans (by repeat (first | exact Below.refl _ _ | refine Below.alloc ?_ (by simp <;> omega) _)) (hb4.mono (by simp <;> omega))
  replace HE1 := Lib.hid (HE1.out.later hs4)
  replace HE2 := Lib.hid (HE2.out.later hs4)
  replace HEV := Lib.hid (HEV.out.later hs4)
  replace hx0 := cell_later hs4 hx0
  replace ht0 := cell_later hs4 ht0
  replace ht1 := cell_later hs4 ht1
  have c_e_0 : w4.cell? ⟨w3.heap.size, 0, none⟩ = some (.int .i64 1) := (hb4.cell (by simp <;> omega)).trans (by go_simp)
  have c_e_1 : w4.cell? ⟨w3.heap.size, 1, none⟩ = some (.slice (some ⟨b6, o6, none⟩) 2 c3) := (hb4.cell (by simp <;> omega)).trans (by go_simp)
  have c_e_2 : w4.cell? ⟨w3.heap.size, 2, none⟩ = some (.slice (some ⟨b7, o7, none⟩) 2 c4) := (hb4.cell (by simp <;> omega)).trans (by go_simp)
  have c_e_3 : w4.cell? ⟨w3.heap.size, 3, none⟩ = some (.int .i64 2) := (hb4.cell (by simp <;> omega)).trans (by go_simp)
  have c_e_4 : w4.cell? ⟨w3.heap.size, 4, none⟩ = some (.int .i64 0) := (hb4.cell (by simp <;> omega)).trans (by go_simp)
  have c_e_5 : w4.cell? ⟨w3.heap.size, 5, none⟩ = some (.int .i64 0) := (hb4.cell (by simp <;> omega)).trans (by go_simp)
  have c_e_6 : w4.cell? ⟨w3.heap.size, 6, none⟩ = some (.int .i64 0) := (hb4.cell (by simp <;> omega)).trans (by go_simp)
  have c_e_7 : w4.cell? ⟨w3.heap.size, 7, none⟩ = some (.slice p5 0 c5) := (hb4.cell (by simp <;> omega)).trans (by go_simp)
  have c_e_8 : w4.cell? ⟨w3.heap.size, 8, none⟩ = some (.string ⟨#[]⟩) := (hb4.cell (by simp <;> omega)).trans (by go_simp)
  have z_e := World.block_lt_of_cell? _ _ c_e_0
  have z_pt := World.block_lt_of_cell? _ _ ht0
  have z_pu := World.block_lt_of_cell? _ _ ht1
  have z_px := World.block_lt_of_cell? _ _ hx0
  have hB4 := below_two hB3 hs4
  clear hB3 hs4 hb4
  go_wp2_with fail
  have hR' := hR.below (hB4.alloc hB4.size (.cells #[.int .i64 1, .int .i64 4] 52))
  refine (eup_is aw_up _ _ _ _ (HEV.out.later (by repeat (first | exact Below.refl _ _ | refine Below.alloc ?_ (by simp <;> omega) _))) hR').mono ?_
  rintro e w5 ⟨vp', vt', vm', rfl, hev, hb5⟩
  clear hR'
  have hs5 : Below w4.heap.size w4 w5 := Below.trans (by repeat (first | exact Below.refl _ _ | refine Below.alloc ?_ (by simp <;> omega) _)) (hb5.mono (by simp <;> omega))
  replace HE1 := Lib.hid (HE1.out.later hs5)
  replace HE2 := Lib.hid (HE2.out.later hs5)
  replace HEV := Lib.hid (HEV.out.later hs5)
  replace hx0 := cell_later hs5 hx0
  replace ht0 := cell_later hs5 ht0
  replace ht1 := cell_later hs5 ht1
  replace c_e_0 := cell_later hs5 c_e_0
  replace c_e_1 := cell_later hs5 c_e_1
  replace c_e_2 := cell_later hs5 c_e_2
  replace c_e_3 := cell_later hs5 c_e_3
  replace c_e_4 := cell_later hs5 c_e_4
  replace c_e_5 := cell_later hs5 c_e_5
  replace c_e_6 := cell_later hs5 c_e_6
  replace c_e_7 := cell_later hs5 c_e_7
  replace c_e_8 := cell_later hs5 c_e_8
  have c_n_0 : w5.cell? ⟨w4.heap.size, 0, none⟩ = some (.int .i64 1) := (hb5.cell (by simp <;> omega)).trans (by go_simp)
  have c_n_1 : w5.cell? ⟨w4.heap.size, 1, none⟩ = some (.int .i64 4) := (hb5.cell (by simp <;> omega)).trans (by go_simp)
  clear z_e
  have z_e := World.block_lt_of_cell? _ _ c_e_0
  have z_n := World.block_lt_of_cell? _ _ c_n_0
  clear z_pt
  have z_pt := World.block_lt_of_cell? _ _ ht0
  clear z_pu
  have z_pu := World.block_lt_of_cell? _ _ ht1
  clear z_px
  have z_px := World.block_lt_of_cell? _ _ hx0
  have hB5 := below_two hB4 hs5
  clear hB4 hs5 hb5
  dsimp only at hev
  obtain ⟨p9, c9, e9, _⟩ := sl_shape hev.ps
  have e9 : vp' = .slice p9 2 c9 := e9
  obtain ⟨p10, c10, e10, _⟩ := sl_shape hev.ts
  have e10 : vt' = .slice p10 2 c10 := e10
  obtain ⟨p11, c11, e11, _⟩ := sl_shape hev.ms
  have e11 : vm' = .slice p11 0 c11 := e11
  subst e9 e10 e11
  obtain ⟨b12, o12, e12, -, hu1, -⟩ := pits_at hev.ps (i := 1) rfl
  subst e12
  rw [Nat.one_mul] at hu1
  dsimp only at hu1
  have HUV := Lib.hid hev
  clear hev
  go_wp2_with fail
  have hR' := hR.below (hB5.alloc hB5.size (.cells #[.int .i64 1, .slice (some ⟨b12, o12, none⟩) 2 c9, .slice p10 2 c10, .int .i64 2, .int .i64 0, .int .i64 0, .int .i64 0, .slice p11 0 c11, .string ⟨#[]⟩] 28))
  refine (tied_is aw_tied _ _ _ _ (HEV.out.later (by repeat (first | exact Below.refl _ _ | refine Below.alloc ?_ (by simp <;> omega) _))) hR').mono ?_
  rintro e w6 ⟨rfl, hb6⟩
  clear hR'
  have hs6 : Below w5.heap.size w5 w6 := Below.trans (by repeat (first | exact Below.refl _ _ | refine Below.alloc ?_ (by simp <;> omega) _)) (hb6.mono (by simp <;> omega))
  replace HE1 := Lib.hid (HE1.out.later hs6)
  replace HE2 := Lib.hid (HE2.out.later hs6)
  replace HEV := Lib.hid (HEV.out.later hs6)
  replace HUV := Lib.hid (HUV.out.later hs6)
  replace hx0 := cell_later hs6 hx0
  replace ht0 := cell_later hs6 ht0
  replace ht1 := cell_later hs6 ht1
  replace c_e_0 := cell_later hs6 c_e_0
  replace c_e_1 := cell_later hs6 c_e_1
  replace c_e_2 := cell_later hs6 c_e_2
  replace c_e_3 := cell_later hs6 c_e_3
  replace c_e_4 := cell_later hs6 c_e_4
  replace c_e_5 := cell_later hs6 c_e_5
  replace c_e_6 := cell_later hs6 c_e_6
  replace c_e_7 := cell_later hs6 c_e_7
  replace c_e_8 := cell_later hs6 c_e_8
  replace c_n_0 := cell_later hs6 c_n_0
  replace c_n_1 := cell_later hs6 c_n_1
  replace hu1 := cell_later hs6 hu1
  have c_u_0 : w6.cell? ⟨w5.heap.size, 0, none⟩ = some (.int .i64 1) := (hb6.cell (by simp <;> omega)).trans (by go_simp)
  have c_u_1 : w6.cell? ⟨w5.heap.size, 1, none⟩ = some (.slice (some ⟨b12, o12, none⟩) 2 c9) := (hb6.cell (by simp <;> omega)).trans (by go_simp)
  have c_u_2 : w6.cell? ⟨w5.heap.size, 2, none⟩ = some (.slice p10 2 c10) := (hb6.cell (by simp <;> omega)).trans (by go_simp)
  have c_u_3 : w6.cell? ⟨w5.heap.size, 3, none⟩ = some (.int .i64 2) := (hb6.cell (by simp <;> omega)).trans (by go_simp)
  have c_u_4 : w6.cell? ⟨w5.heap.size, 4, none⟩ = some (.int .i64 0) := (hb6.cell (by simp <;> omega)).trans (by go_simp)
  have c_u_5 : w6.cell? ⟨w5.heap.size, 5, none⟩ = some (.int .i64 0) := (hb6.cell (by simp <;> omega)).trans (by go_simp)
  have c_u_6 : w6.cell? ⟨w5.heap.size, 6, none⟩ = some (.int .i64 0) := (hb6.cell (by simp <;> omega)).trans (by go_simp)
  have c_u_7 : w6.cell? ⟨w5.heap.size, 7, none⟩ = some (.slice p11 0 c11) := (hb6.cell (by simp <;> omega)).trans (by go_simp)
  have c_u_8 : w6.cell? ⟨w5.heap.size, 8, none⟩ = some (.string ⟨#[]⟩) := (hb6.cell (by simp <;> omega)).trans (by go_simp)
  clear z_e
  have z_e := World.block_lt_of_cell? _ _ c_e_0
  clear z_n
  have z_n := World.block_lt_of_cell? _ _ c_n_0
  clear z_pt
  have z_pt := World.block_lt_of_cell? _ _ ht0
  clear z_pu
  have z_pu := World.block_lt_of_cell? _ _ ht1
  have z_pv := World.block_lt_of_cell? _ _ hu1
  clear z_px
  have z_px := World.block_lt_of_cell? _ _ hx0
  have z_u := World.block_lt_of_cell? _ _ c_u_0
  have hB6 := below_two hB5 hs6
  clear hB5 hs6 hb6
  go_wp2_with fail
  have hR' := hR.below hB6
  refine (c_any 0 false _).mono ?_
  rintro e w7 ⟨⟨p3, q3, r3, s3, rfl, he3⟩, hb7⟩
  clear hR'
  have hs7 := hb7
  replace HE1 := Lib.hid (HE1.out.later hs7)
  replace HE2 := Lib.hid (HE2.out.later hs7)
  replace HEV := Lib.hid (HEV.out.later hs7)
  replace HUV := Lib.hid (HUV.out.later hs7)
  replace hx0 := cell_later hs7 hx0
  replace ht0 := cell_later hs7 ht0
  replace ht1 := cell_later hs7 ht1
  replace c_e_0 := cell_later hs7 c_e_0
  replace c_e_1 := cell_later hs7 c_e_1
  replace c_e_2 := cell_later hs7 c_e_2
  replace c_e_3 := cell_later hs7 c_e_3
  replace c_e_4 := cell_later hs7 c_e_4
  replace c_e_5 := cell_later hs7 c_e_5
  replace c_e_6 := cell_later hs7 c_e_6
  replace c_e_7 := cell_later hs7 c_e_7
  replace c_e_8 := cell_later hs7 c_e_8
  replace c_n_0 := cell_later hs7 c_n_0
  replace c_n_1 := cell_later hs7 c_n_1
  replace hu1 := cell_later hs7 hu1
  replace c_u_0 := cell_later hs7 c_u_0
  replace c_u_1 := cell_later hs7 c_u_1
  replace c_u_2 := cell_later hs7 c_u_2
  replace c_u_3 := cell_later hs7 c_u_3
  replace c_u_4 := cell_later hs7 c_u_4
  replace c_u_5 := cell_later hs7 c_u_5
  replace c_u_6 := cell_later hs7 c_u_6
  replace c_u_7 := cell_later hs7 c_u_7
  replace c_u_8 := cell_later hs7 c_u_8
  clear z_e
  have z_e := World.block_lt_of_cell? _ _ c_e_0
  clear z_n
  have z_n := World.block_lt_of_cell? _ _ c_n_0
  clear z_pt
  have z_pt := World.block_lt_of_cell? _ _ ht0
  clear z_pu
  have z_pu := World.block_lt_of_cell? _ _ ht1
  clear z_pv
  have z_pv := World.block_lt_of_cell? _ _ hu1
  clear z_px
  have z_px := World.block_lt_of_cell? _ _ hx0
  clear z_u
  have z_u := World.block_lt_of_cell? _ _ c_u_0
  have hB7 := below_two hB6 hs7
  clear hB6 hs7
  have HE3 := Lib.hid he3
  clear he3
  go_wp2_with fail
  have hR' := hR.below hB7
  refine (tied_is aw_tied2 _ _ _ _ HE3.out hR').mono ?_
  rintro e w8 ⟨rfl, hb8⟩
  clear hR'
  have hs8 := hb8
  replace HE1 := Lib.hid (HE1.out.later hs8)
  replace HE2 := Lib.hid (HE2.out.later hs8)
  replace HEV := Lib.hid (HEV.out.later hs8)
  replace HUV := Lib.hid (HUV.out.later hs8)
  replace HE3 := Lib.hid (HE3.out.later hs8)
  replace hx0 := cell_later hs8 hx0
  replace ht0 := cell_later hs8 ht0
  replace ht1 := cell_later hs8 ht1
  replace c_e_0 := cell_later hs8 c_e_0
  replace c_e_1 := cell_later hs8 c_e_1
  replace c_e_2 := cell_later hs8 c_e_2
  replace c_e_3 := cell_later hs8 c_e_3
  replace c_e_4 := cell_later hs8 c_e_4
  replace c_e_5 := cell_later hs8 c_e_5
  replace c_e_6 := cell_later hs8 c_e_6
  replace c_e_7 := cell_later hs8 c_e_7
  replace c_e_8 := cell_later hs8 c_e_8
  replace c_n_0 := cell_later hs8 c_n_0
  replace c_n_1 := cell_later hs8 c_n_1
  replace hu1 := cell_later hs8 hu1
  replace c_u_0 := cell_later hs8 c_u_0
  replace c_u_1 := cell_later hs8 c_u_1
  replace c_u_2 := cell_later hs8 c_u_2
  replace c_u_3 := cell_later hs8 c_u_3
  replace c_u_4 := cell_later hs8 c_u_4
  replace c_u_5 := cell_later hs8 c_u_5
  replace c_u_6 := cell_later hs8 c_u_6
  replace c_u_7 := cell_later hs8 c_u_7
  replace c_u_8 := cell_later hs8 c_u_8
  clear z_e
  have z_e := World.block_lt_of_cell? _ _ c_e_0
  clear z_n
  have z_n := World.block_lt_of_cell? _ _ c_n_0
  clear z_pt
  have z_pt := World.block_lt_of_cell? _ _ ht0
  clear z_pu
  have z_pu := World.block_lt_of_cell? _ _ ht1
  clear z_pv
  have z_pv := World.block_lt_of_cell? _ _ hu1
  clear z_px
  have z_px := World.block_lt_of_cell? _ _ hx0
  clear z_u
  have z_u := World.block_lt_of_cell? _ _ c_u_0
  have hB8 := below_two hB7 hs8
  clear hB7 hs8
  go_wp2_with fail
  have hR' := hR.below hB8
  refine (eright_is aw_right _ _ _ _ HEV.out hR').mono ?_
  rintro e w9 ⟨rfl, hb9⟩
  clear hR'
  have hs9 := hb9
  replace HE1 := Lib.hid (HE1.out.later hs9)
  replace HE2 := Lib.hid (HE2.out.later hs9)
  replace HEV := Lib.hid (HEV.out.later hs9)
  replace HUV := Lib.hid (HUV.out.later hs9)
  replace HE3 := Lib.hid (HE3.out.later hs9)
  replace hx0 := cell_later hs9 hx0
  replace ht0 := cell_later hs9 ht0
  replace ht1 := cell_later hs9 ht1
  replace c_e_0 := cell_later hs9 c_e_0
  replace c_e_1 := cell_later hs9 c_e_1
  replace c_e_2 := cell_later hs9 c_e_2
  replace c_e_3 := cell_later hs9 c_e_3
  replace c_e_4 := cell_later hs9 c_e_4
  replace c_e_5 := cell_later hs9 c_e_5
  replace c_e_6 := cell_later hs9 c_e_6
  replace c_e_7 := cell_later hs9 c_e_7
  replace c_e_8 := cell_later hs9 c_e_8
  replace c_n_0 := cell_later hs9 c_n_0
  replace c_n_1 := cell_later hs9 c_n_1
  replace hu1 := cell_later hs9 hu1
  replace c_u_0 := cell_later hs9 c_u_0
  replace c_u_1 := cell_later hs9 c_u_1
  replace c_u_2 := cell_later hs9 c_u_2
  replace c_u_3 := cell_later hs9 c_u_3
  replace c_u_4 := cell_later hs9 c_u_4
  replace c_u_5 := cell_later hs9 c_u_5
  replace c_u_6 := cell_later hs9 c_u_6
  replace c_u_7 := cell_later hs9 c_u_7
  replace c_u_8 := cell_later hs9 c_u_8
  clear z_e
  have z_e := World.block_lt_of_cell? _ _ c_e_0
  clear z_n
  have z_n := World.block_lt_of_cell? _ _ c_n_0
  clear z_pt
  have z_pt := World.block_lt_of_cell? _ _ ht0
  clear z_pu
  have z_pu := World.block_lt_of_cell? _ _ ht1
  clear z_pv
  have z_pv := World.block_lt_of_cell? _ _ hu1
  clear z_px
  have z_px := World.block_lt_of_cell? _ _ hx0
  clear z_u
  have z_u := World.block_lt_of_cell? _ _ c_u_0
  have hB9 := below_two hB8 hs9
  clear hB8 hs9
  go_wp2_with fail
  have hR' := hR.below hB9
  refine (eright_is (x := ⟨2, [], [], 2, 0, 0, 0, [], ⟨#[]⟩⟩) aw_k2 _ _ _ _ ⟨Sl.none _ _ _, Sl.none _ _ _, Sl.none _ _ _, by show (0 : Nat) ≤ _; omega⟩ hR').mono ?_
  rintro e w10 ⟨rfl, hb10⟩
  clear hR'
  have hs10 := hb10
  replace HE1 := Lib.hid (HE1.out.later hs10)
  replace HE2 := Lib.hid (HE2.out.later hs10)
  replace HEV := Lib.hid (HEV.out.later hs10)
  replace HUV := Lib.hid (HUV.out.later hs10)
  replace HE3 := Lib.hid (HE3.out.later hs10)
  replace hx0 := cell_later hs10 hx0
  replace ht0 := cell_later hs10 ht0
  replace ht1 := cell_later hs10 ht1
  replace c_e_0 := cell_later hs10 c_e_0
  replace c_e_1 := cell_later hs10 c_e_1
  replace c_e_2 := cell_later hs10 c_e_2
  replace c_e_3 := cell_later hs10 c_e_3
  replace c_e_4 := cell_later hs10 c_e_4
  replace c_e_5 := cell_later hs10 c_e_5
  replace c_e_6 := cell_later hs10 c_e_6
  replace c_e_7 := cell_later hs10 c_e_7
  replace c_e_8 := cell_later hs10 c_e_8
  replace c_n_0 := cell_later hs10 c_n_0
  replace c_n_1 := cell_later hs10 c_n_1
  replace hu1 := cell_later hs10 hu1
  replace c_u_0 := cell_later hs10 c_u_0
  replace c_u_1 := cell_later hs10 c_u_1
  replace c_u_2 := cell_later hs10 c_u_2
  replace c_u_3 := cell_later hs10 c_u_3
  replace c_u_4 := cell_later hs10 c_u_4
  replace c_u_5 := cell_later hs10 c_u_5
  replace c_u_6 := cell_later hs10 c_u_6
  replace c_u_7 := cell_later hs10 c_u_7
  replace c_u_8 := cell_later hs10 c_u_8
  clear z_e
  have z_e := World.block_lt_of_cell? _ _ c_e_0
  clear z_n
  have z_n := World.block_lt_of_cell? _ _ c_n_0
  clear z_pt
  have z_pt := World.block_lt_of_cell? _ _ ht0
  clear z_pu
  have z_pu := World.block_lt_of_cell? _ _ ht1
  clear z_pv
  have z_pv := World.block_lt_of_cell? _ _ hu1
  clear z_px
  have z_px := World.block_lt_of_cell? _ _ hx0
  clear z_u
  have z_u := World.block_lt_of_cell? _ _ c_u_0
  have hB10 := below_two hB9 hs10
  clear hB9 hs10
  have hqq : eqR 1 4 1 4 = true := eqR_self 1 4
  go_wp2_with fail
  have hR' := hR.below hB10
  refine (esame_is (sameE_self _) _ _ _ _ _ _ _ HEV.out HEV.out).mono ?_
  rintro e w11 ⟨rfl, hb11⟩
  clear hR'
  have hs11 := hb11
  replace HE1 := Lib.hid (HE1.out.later hs11)
  replace HE2 := Lib.hid (HE2.out.later hs11)
  replace HEV := Lib.hid (HEV.out.later hs11)
  replace HUV := Lib.hid (HUV.out.later hs11)
  replace HE3 := Lib.hid (HE3.out.later hs11)
  replace hx0 := cell_later hs11 hx0
  replace ht0 := cell_later hs11 ht0
  replace ht1 := cell_later hs11 ht1
  replace c_e_0 := cell_later hs11 c_e_0
  replace c_e_1 := cell_later hs11 c_e_1
  replace c_e_2 := cell_later hs11 c_e_2
  replace c_e_3 := cell_later hs11 c_e_3
  replace c_e_4 := cell_later hs11 c_e_4
  replace c_e_5 := cell_later hs11 c_e_5
  replace c_e_6 := cell_later hs11 c_e_6
  replace c_e_7 := cell_later hs11 c_e_7
  replace c_e_8 := cell_later hs11 c_e_8
  replace c_n_0 := cell_later hs11 c_n_0
  replace c_n_1 := cell_later hs11 c_n_1
  replace hu1 := cell_later hs11 hu1
  replace c_u_0 := cell_later hs11 c_u_0
  replace c_u_1 := cell_later hs11 c_u_1
  replace c_u_2 := cell_later hs11 c_u_2
  replace c_u_3 := cell_later hs11 c_u_3
  replace c_u_4 := cell_later hs11 c_u_4
  replace c_u_5 := cell_later hs11 c_u_5
  replace c_u_6 := cell_later hs11 c_u_6
  replace c_u_7 := cell_later hs11 c_u_7
  replace c_u_8 := cell_later hs11 c_u_8
  clear z_e
  have z_e := World.block_lt_of_cell? _ _ c_e_0
  clear z_n
  have z_n := World.block_lt_of_cell? _ _ c_n_0
  clear z_pt
  have z_pt := World.block_lt_of_cell? _ _ ht0
  clear z_pu
  have z_pu := World.block_lt_of_cell? _ _ ht1
  clear z_pv
  have z_pv := World.block_lt_of_cell? _ _ hu1
  clear z_px
  have z_px := World.block_lt_of_cell? _ _ hx0
  clear z_u
  have z_u := World.block_lt_of_cell? _ _ c_u_0
  have hB11 := below_two hB10 hs11
  clear hB10 hs11
  go_wp2_with fail
  have hR' := hR.below hB11
  refine (esame_is aw_same _ _ _ _ _ _ _ HEV.out HUV.out).mono ?_
  rintro e w12 ⟨rfl, hb12⟩
  clear hR'
  have hs12 := hb12
  replace HE1 := Lib.hid (HE1.out.later hs12)
  replace HE2 := Lib.hid (HE2.out.later hs12)
  replace HEV := Lib.hid (HEV.out.later hs12)
  replace HUV := Lib.hid (HUV.out.later hs12)
  replace HE3 := Lib.hid (HE3.out.later hs12)
  replace hx0 := cell_later hs12 hx0
  replace ht0 := cell_later hs12 ht0
  replace ht1 := cell_later hs12 ht1
  replace c_e_0 := cell_later hs12 c_e_0
  replace c_e_1 := cell_later hs12 c_e_1
  replace c_e_2 := cell_later hs12 c_e_2
  replace c_e_3 := cell_later hs12 c_e_3
  replace c_e_4 := cell_later hs12 c_e_4
  replace c_e_5 := cell_later hs12 c_e_5
  replace c_e_6 := cell_later hs12 c_e_6
  replace c_e_7 := cell_later hs12 c_e_7
  replace c_e_8 := cell_later hs12 c_e_8
  replace c_n_0 := cell_later hs12 c_n_0
  replace c_n_1 := cell_later hs12 c_n_1
  replace hu1 := cell_later hs12 hu1
  replace c_u_0 := cell_later hs12 c_u_0
  replace c_u_1 := cell_later hs12 c_u_1
  replace c_u_2 := cell_later hs12 c_u_2
  replace c_u_3 := cell_later hs12 c_u_3
  replace c_u_4 := cell_later hs12 c_u_4
  replace c_u_5 := cell_later hs12 c_u_5
  replace c_u_6 := cell_later hs12 c_u_6
  replace c_u_7 := cell_later hs12 c_u_7
  replace c_u_8 := cell_later hs12 c_u_8
  clear z_e
  have z_e := World.block_lt_of_cell? _ _ c_e_0
  clear z_n
  have z_n := World.block_lt_of_cell? _ _ c_n_0
  clear z_pt
  have z_pt := World.block_lt_of_cell? _ _ ht0
  clear z_pu
  have z_pu := World.block_lt_of_cell? _ _ ht1
  clear z_pv
  have z_pv := World.block_lt_of_cell? _ _ hu1
  clear z_px
  have z_px := World.block_lt_of_cell? _ _ hx0
  clear z_u
  have z_u := World.block_lt_of_cell? _ _ c_u_0
  have hB12 := below_two hB11 hs12
  clear hB11 hs12
  go_wp2
  go_ret
  exact ⟨rfl, hB12⟩
end Go.Proofs.YtnfnonlbokddfaaDoor
