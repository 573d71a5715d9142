/-
  EventWords answers true: the law's walk.
-/
import Derived.Test.YtoiankbopjaamaaDoorEvLaw
import Derived.Test.YtoiankbopjaamaaDoorEvPlain
namespace Go.Proofs.YtoiankbopjaamaaDoor
open Go.RowKit
open Evt (P3 Ev)

theorem word_chord (s : ByteArray) : Evt.right (evC 0 false s) = Evt.wordR s := by
  have h1 : Val.ok 2 0 0 0 = true := by decide
  have h2 : (Evt.marksR [] && Evt.kindR (evC 0 false s)) = true := by
    show (Evt.marksR [] && ((decide (1 ≤ 1 ∧ 1 ≤ 8) && decide (1 = 1)) && (([(0, 0, 4)] : List P3).all Evt.rgt && Evt.rise Evt.cp ([(0, 0, 4)] : List P3)))) = true
    decide +kernel
  show (Val.ok 2 0 0 0 && (Evt.wordR s && (Evt.marksR [] && Evt.kindR (evC 0 false s)))) = _
  rw [h1, h2, Bool.true_and, Bool.and_true]
theorem word_rest {s : ByteArray} (h : ¬ s.size = 0) : Evt.right ⟨0, [], [], 2, 0, 0, 0, [], s⟩ = false := by
  have h3 : Evt.kindR ⟨0, [], [], 2, 0, 0, 0, [], s⟩ = false := by
    unfold Evt.kindR Evt.restR
    dsimp only
    rw [if_pos rfl, decide_eq_false h]
    rfl
  show (_ && (_ && (_ && Evt.kindR ⟨0, [], [], 2, 0, 0, 0, [], s⟩))) = false
  rw [h3, Bool.and_false, Bool.and_false, Bool.and_false]

set_option maxRecDepth 100000 in
set_option maxHeartbeats 40000000 in
theorem words_long (s : ByteArray) (w : World) (hR : Ready w) (hl : (100 : Int) < (s.size : Int)) :
    Calls Tryd.prog 14 #[.string s] w fun ed w' => ed = .returned (.bool true) ∧ Below w.heap.size w w' := by
  have hB0 : Below w.heap.size w w := Below.refl _ _
  go_enter Tryd.func14, Tryd.ntmps14
  go_wp2_with fail
  have hR' := hR.below hB0
  refine (awake_any _ hR').mono ?_
  rintro e w1 ⟨rfl, hb1⟩
  clear hR'
  have hs1 := hb1
  have hB1 := below_two hB0 hs1
  clear hB0 hs1
  go_wp2
  go_ret
  exact ⟨rfl, hB1⟩

set_option maxRecDepth 100000 in
set_option maxHeartbeats 40000000 in
theorem words_empty (w : World) (hR : Ready w) (HW1 : Hid (Evt.right (evC 0 false ⟨#[]⟩) = true)) (HW2 : Hid (Evt.wordR ⟨#[]⟩ = true)) (HW3 : Hid (Evt.right ⟨0, [], [], 2, 0, 0, 0, [], ⟨#[]⟩⟩ = true)) (HSZ : Hid ((⟨#[]⟩ : ByteArray).size ≤ 140737488355328)) :
    Calls Tryd.prog 14 #[.string ⟨#[]⟩] w fun ed w' => ed = .returned (.bool true) ∧ Below w.heap.size w w' := by
  have hB0 : Below w.heap.size w w := Below.refl _ _
  go_enter Tryd.func14, Tryd.ntmps14
  go_wp2_with fail
  have hR' := hR.below hB0
  refine (awake_any _ hR').mono ?_
  rintro e w1 ⟨rfl, hb1⟩
  clear hR'
  have hs1 := hb1
  have hB1 := below_two hB0 hs1
  clear hB0 hs1
  go_wp2_with fail
  have hR' := hR.below hB1
  refine (c_any 0 false _).mono ?_
  rintro e w2 ⟨⟨p1, q1, r1, s1, rfl, hev⟩, hb2⟩
  clear hR'
  have hs2 := hb2
  have hB2 := below_two hB1 hs2
  clear hB1 hs2
  have HE := Lib.hid hev
  clear hev
  have SE : Hid (Since w2 w2) := Lib.hid (Since.refl _)
  go_wp2_with fail
  have hR' := hR.below ((hB2.alloc hB2.size (.cells #[.int .i64 1, .slice p1 1 q1, .slice r1 1 s1, .int .i64 2, .int .i64 0, .int .i64 0, .int .i64 0, .slice none 0 0, .string ⟨#[]⟩] 28)).alloc (hB2.alloc hB2.size (.cells #[.int .i64 1, .slice p1 1 q1, .slice r1 1 s1, .int .i64 2, .int .i64 0, .int .i64 0, .int .i64 0, .slice none 0 0, .string ⟨#[]⟩] 28)).size (.cells #[.int .i64 0, .slice none 0 0, .slice none 0 0, .int .i64 2, .int .i64 0, .int .i64 0, .int .i64 0, .slice none 0 0, .string ⟨#[]⟩] 28))
  refine (eright_is (x := evC 0 false ⟨#[]⟩) HW1.out _ _ _ _ ⟨(HE.out.later (below_two SE.out (by repeat (first | exact Below.refl _ _ | refine Below.alloc ?_ (by simp <;> omega) _)))).ps, (HE.out.later (below_two SE.out (by repeat (first | exact Below.refl _ _ | refine Below.alloc ?_ (by simp <;> omega) _)))).ts, (HE.out.later (below_two SE.out (by repeat (first | exact Below.refl _ _ | refine Below.alloc ?_ (by simp <;> omega) _)))).ms, HSZ.out⟩ hR').mono ?_
  rintro e w3 ⟨rfl, hb3⟩
  clear hR'
  have hs3 : Below w2.heap.size w2 w3 := Below.trans (by repeat (first | exact Below.refl _ _ | refine Below.alloc ?_ (by simp <;> omega) _)) (hb3.mono (by simp <;> omega))
  replace SE := Lib.hid (SE.out.later hs3)
  have c_e_0 : w3.cell? ⟨w2.heap.size, 0, none⟩ = some (.int .i64 1) := (hb3.cell (by simp <;> omega)).trans (by go_simp)
  have c_e_1 : w3.cell? ⟨w2.heap.size, 1, none⟩ = some (.slice p1 1 q1) := (hb3.cell (by simp <;> omega)).trans (by go_simp)
  have c_e_2 : w3.cell? ⟨w2.heap.size, 2, none⟩ = some (.slice r1 1 s1) := (hb3.cell (by simp <;> omega)).trans (by go_simp)
  have c_e_3 : w3.cell? ⟨w2.heap.size, 3, none⟩ = some (.int .i64 2) := (hb3.cell (by simp <;> omega)).trans (by go_simp)
  have c_e_4 : w3.cell? ⟨w2.heap.size, 4, none⟩ = some (.int .i64 0) := (hb3.cell (by simp <;> omega)).trans (by go_simp)
  have c_e_5 : w3.cell? ⟨w2.heap.size, 5, none⟩ = some (.int .i64 0) := (hb3.cell (by simp <;> omega)).trans (by go_simp)
  have c_e_6 : w3.cell? ⟨w2.heap.size, 6, none⟩ = some (.int .i64 0) := (hb3.cell (by simp <;> omega)).trans (by go_simp)
  have c_e_7 : w3.cell? ⟨w2.heap.size, 7, none⟩ = some (.slice none 0 0) := (hb3.cell (by simp <;> omega)).trans (by go_simp)
  have c_e_8 : w3.cell? ⟨w2.heap.size, 8, none⟩ = some (.string ⟨#[]⟩) := (hb3.cell (by simp <;> omega)).trans (by go_simp)
  have c_r_0 : w3.cell? ⟨w2.heap.size + 1, 0, none⟩ = some (.int .i64 0) := (hb3.cell (by simp <;> omega)).trans (by go_simp)
  have c_r_1 : w3.cell? ⟨w2.heap.size + 1, 1, none⟩ = some (.slice none 0 0) := (hb3.cell (by simp <;> omega)).trans (by go_simp)
  have c_r_2 : w3.cell? ⟨w2.heap.size + 1, 2, none⟩ = some (.slice none 0 0) := (hb3.cell (by simp <;> omega)).trans (by go_simp)
  have c_r_3 : w3.cell? ⟨w2.heap.size + 1, 3, none⟩ = some (.int .i64 2) := (hb3.cell (by simp <;> omega)).trans (by go_simp)
  have c_r_4 : w3.cell? ⟨w2.heap.size + 1, 4, none⟩ = some (.int .i64 0) := (hb3.cell (by simp <;> omega)).trans (by go_simp)
  have c_r_5 : w3.cell? ⟨w2.heap.size + 1, 5, none⟩ = some (.int .i64 0) := (hb3.cell (by simp <;> omega)).trans (by go_simp)
  have c_r_6 : w3.cell? ⟨w2.heap.size + 1, 6, none⟩ = some (.int .i64 0) := (hb3.cell (by simp <;> omega)).trans (by go_simp)
  have c_r_7 : w3.cell? ⟨w2.heap.size + 1, 7, none⟩ = some (.slice none 0 0) := (hb3.cell (by simp <;> omega)).trans (by go_simp)
  have c_r_8 : w3.cell? ⟨w2.heap.size + 1, 8, none⟩ = some (.string ⟨#[]⟩) := (hb3.cell (by simp <;> omega)).trans (by go_simp)
  have z_e : w2.heap.size < _ := World.block_lt_of_cell? _ _ c_e_0
  have z_r : w2.heap.size + 1 < _ := World.block_lt_of_cell? _ _ c_r_0
  have hB3 := below_two hB2 hs3
  clear hB2 hs3 hb3
  go_wp2_with fail
  have hR' := hR.below hB3
  refine (plain_word_is (s := ⟨#[]⟩) HW2.out _ HSZ.out).mono ?_
  rintro e w4 ⟨rfl, hb4⟩
  clear hR'
  have hs4 := hb4
  replace SE := Lib.hid (SE.out.later hs4)
  replace c_e_0 := cell_later hs4 c_e_0
  replace c_e_1 := cell_later hs4 c_e_1
  replace c_e_2 := cell_later hs4 c_e_2
  replace c_e_3 := cell_later hs4 c_e_3
  replace c_e_4 := cell_later hs4 c_e_4
  replace c_e_5 := cell_later hs4 c_e_5
  replace c_e_6 := cell_later hs4 c_e_6
  replace c_e_7 := cell_later hs4 c_e_7
  replace c_e_8 := cell_later hs4 c_e_8
  replace c_r_0 := cell_later hs4 c_r_0
  replace c_r_1 := cell_later hs4 c_r_1
  replace c_r_2 := cell_later hs4 c_r_2
  replace c_r_3 := cell_later hs4 c_r_3
  replace c_r_4 := cell_later hs4 c_r_4
  replace c_r_5 := cell_later hs4 c_r_5
  replace c_r_6 := cell_later hs4 c_r_6
  replace c_r_7 := cell_later hs4 c_r_7
  replace c_r_8 := cell_later hs4 c_r_8
  clear z_e
  have z_e : w2.heap.size < _ := World.block_lt_of_cell? _ _ c_e_0
  clear z_r
  have z_r : w2.heap.size + 1 < _ := World.block_lt_of_cell? _ _ c_r_0
  have hB4 := below_two hB3 hs4
  clear hB3 hs4
  go_wp2_with fail
  have hR' := hR.below hB4
  refine (eright_is (x := ⟨0, [], [], 2, 0, 0, 0, [], ⟨#[]⟩⟩) HW3.out _ _ _ _ ⟨Sl.none _ _ _, Sl.none _ _ _, Sl.none _ _ _, HSZ.out⟩ hR').mono ?_
  rintro e w5 ⟨rfl, hb5⟩
  clear hR'
  have hs5 := hb5
  replace SE := Lib.hid (SE.out.later hs5)
  replace c_e_0 := cell_later hs5 c_e_0
  replace c_e_1 := cell_later hs5 c_e_1
  replace c_e_2 := cell_later hs5 c_e_2
  replace c_e_3 := cell_later hs5 c_e_3
  replace c_e_4 := cell_later hs5 c_e_4
  replace c_e_5 := cell_later hs5 c_e_5
  replace c_e_6 := cell_later hs5 c_e_6
  replace c_e_7 := cell_later hs5 c_e_7
  replace c_e_8 := cell_later hs5 c_e_8
  replace c_r_0 := cell_later hs5 c_r_0
  replace c_r_1 := cell_later hs5 c_r_1
  replace c_r_2 := cell_later hs5 c_r_2
  replace c_r_3 := cell_later hs5 c_r_3
  replace c_r_4 := cell_later hs5 c_r_4
  replace c_r_5 := cell_later hs5 c_r_5
  replace c_r_6 := cell_later hs5 c_r_6
  replace c_r_7 := cell_later hs5 c_r_7
  replace c_r_8 := cell_later hs5 c_r_8
  clear z_e
  have z_e : w2.heap.size < _ := World.block_lt_of_cell? _ _ c_e_0
  clear z_r
  have z_r : w2.heap.size + 1 < _ := World.block_lt_of_cell? _ _ c_r_0
  have hB5 := below_two hB4 hs5
  clear hB4 hs5
  go_wp2
  go_ret
  exact ⟨rfl, hB5⟩

set_option maxRecDepth 100000 in
set_option maxHeartbeats 40000000 in
theorem words_true (s : ByteArray) (w : World) (hR : Ready w) (hl : ¬ (100 : Int) < (s.size : Int)) (e1 : (s.toList == []) = false) (HW1 : Hid (Evt.right (evC 0 false s) = true)) (HW2 : Hid (Evt.wordR s = true)) (HW3 : Hid (Evt.right ⟨0, [], [], 2, 0, 0, 0, [], s⟩ = false)) (HSZ : Hid ((s : ByteArray).size ≤ 140737488355328)) :
    Calls Tryd.prog 14 #[.string s] w fun ed w' => ed = .returned (.bool true) ∧ Below w.heap.size w w' := by
  have hB0 : Below w.heap.size w w := Below.refl _ _
  go_enter Tryd.func14, Tryd.ntmps14
  go_wp2_with fail
  have hR' := hR.below hB0
  refine (awake_any _ hR').mono ?_
  rintro e w1 ⟨rfl, hb1⟩
  clear hR'
  have hs1 := hb1
  have hB1 := below_two hB0 hs1
  clear hB0 hs1
  go_wp2_with fail
  have hR' := hR.below hB1
  refine (c_any 0 false _).mono ?_
  rintro e w2 ⟨⟨p1, q1, r1, s1, rfl, hev⟩, hb2⟩
  clear hR'
  have hs2 := hb2
  have hB2 := below_two hB1 hs2
  clear hB1 hs2
  have HE := Lib.hid hev
  clear hev
  have SE : Hid (Since w2 w2) := Lib.hid (Since.refl _)
  go_wp2_with fail
  have hR' := hR.below ((hB2.alloc hB2.size (.cells #[.int .i64 1, .slice p1 1 q1, .slice r1 1 s1, .int .i64 2, .int .i64 0, .int .i64 0, .int .i64 0, .slice none 0 0, .string s] 28)).alloc (hB2.alloc hB2.size (.cells #[.int .i64 1, .slice p1 1 q1, .slice r1 1 s1, .int .i64 2, .int .i64 0, .int .i64 0, .int .i64 0, .slice none 0 0, .string s] 28)).size (.cells #[.int .i64 0, .slice none 0 0, .slice none 0 0, .int .i64 2, .int .i64 0, .int .i64 0, .int .i64 0, .slice none 0 0, .string s] 28))
  refine (eright_is (x := evC 0 false s) HW1.out _ _ _ _ ⟨(HE.out.later (below_two SE.out (by repeat (first | exact Below.refl _ _ | refine Below.alloc ?_ (by simp <;> omega) _)))).ps, (HE.out.later (below_two SE.out (by repeat (first | exact Below.refl _ _ | refine Below.alloc ?_ (by simp <;> omega) _)))).ts, (HE.out.later (below_two SE.out (by repeat (first | exact Below.refl _ _ | refine Below.alloc ?_ (by simp <;> omega) _)))).ms, HSZ.out⟩ hR').mono ?_
  rintro e w3 ⟨rfl, hb3⟩
  clear hR'
  have hs3 : Below w2.heap.size w2 w3 := Below.trans (by repeat (first | exact Below.refl _ _ | refine Below.alloc ?_ (by simp <;> omega) _)) (hb3.mono (by simp <;> omega))
  replace SE := Lib.hid (SE.out.later hs3)
  have c_e_0 : w3.cell? ⟨w2.heap.size, 0, none⟩ = some (.int .i64 1) := (hb3.cell (by simp <;> omega)).trans (by go_simp)
  have c_e_1 : w3.cell? ⟨w2.heap.size, 1, none⟩ = some (.slice p1 1 q1) := (hb3.cell (by simp <;> omega)).trans (by go_simp)
  have c_e_2 : w3.cell? ⟨w2.heap.size, 2, none⟩ = some (.slice r1 1 s1) := (hb3.cell (by simp <;> omega)).trans (by go_simp)
  have c_e_3 : w3.cell? ⟨w2.heap.size, 3, none⟩ = some (.int .i64 2) := (hb3.cell (by simp <;> omega)).trans (by go_simp)
  have c_e_4 : w3.cell? ⟨w2.heap.size, 4, none⟩ = some (.int .i64 0) := (hb3.cell (by simp <;> omega)).trans (by go_simp)
  have c_e_5 : w3.cell? ⟨w2.heap.size, 5, none⟩ = some (.int .i64 0) := (hb3.cell (by simp <;> omega)).trans (by go_simp)
  have c_e_6 : w3.cell? ⟨w2.heap.size, 6, none⟩ = some (.int .i64 0) := (hb3.cell (by simp <;> omega)).trans (by go_simp)
  have c_e_7 : w3.cell? ⟨w2.heap.size, 7, none⟩ = some (.slice none 0 0) := (hb3.cell (by simp <;> omega)).trans (by go_simp)
  have c_e_8 : w3.cell? ⟨w2.heap.size, 8, none⟩ = some (.string s) := (hb3.cell (by simp <;> omega)).trans (by go_simp)
  have c_r_0 : w3.cell? ⟨w2.heap.size + 1, 0, none⟩ = some (.int .i64 0) := (hb3.cell (by simp <;> omega)).trans (by go_simp)
  have c_r_1 : w3.cell? ⟨w2.heap.size + 1, 1, none⟩ = some (.slice none 0 0) := (hb3.cell (by simp <;> omega)).trans (by go_simp)
  have c_r_2 : w3.cell? ⟨w2.heap.size + 1, 2, none⟩ = some (.slice none 0 0) := (hb3.cell (by simp <;> omega)).trans (by go_simp)
  have c_r_3 : w3.cell? ⟨w2.heap.size + 1, 3, none⟩ = some (.int .i64 2) := (hb3.cell (by simp <;> omega)).trans (by go_simp)
  have c_r_4 : w3.cell? ⟨w2.heap.size + 1, 4, none⟩ = some (.int .i64 0) := (hb3.cell (by simp <;> omega)).trans (by go_simp)
  have c_r_5 : w3.cell? ⟨w2.heap.size + 1, 5, none⟩ = some (.int .i64 0) := (hb3.cell (by simp <;> omega)).trans (by go_simp)
  have c_r_6 : w3.cell? ⟨w2.heap.size + 1, 6, none⟩ = some (.int .i64 0) := (hb3.cell (by simp <;> omega)).trans (by go_simp)
  have c_r_7 : w3.cell? ⟨w2.heap.size + 1, 7, none⟩ = some (.slice none 0 0) := (hb3.cell (by simp <;> omega)).trans (by go_simp)
  have c_r_8 : w3.cell? ⟨w2.heap.size + 1, 8, none⟩ = some (.string s) := (hb3.cell (by simp <;> omega)).trans (by go_simp)
  have z_e : w2.heap.size < _ := World.block_lt_of_cell? _ _ c_e_0
  have z_r : w2.heap.size + 1 < _ := World.block_lt_of_cell? _ _ c_r_0
  have hB3 := below_two hB2 hs3
  clear hB2 hs3 hb3
  go_wp2_with fail
  have hR' := hR.below hB3
  refine (plain_word_is (s := s) HW2.out _ HSZ.out).mono ?_
  rintro e w4 ⟨rfl, hb4⟩
  clear hR'
  have hs4 := hb4
  replace SE := Lib.hid (SE.out.later hs4)
  replace c_e_0 := cell_later hs4 c_e_0
  replace c_e_1 := cell_later hs4 c_e_1
  replace c_e_2 := cell_later hs4 c_e_2
  replace c_e_3 := cell_later hs4 c_e_3
  replace c_e_4 := cell_later hs4 c_e_4
  replace c_e_5 := cell_later hs4 c_e_5
  replace c_e_6 := cell_later hs4 c_e_6
  replace c_e_7 := cell_later hs4 c_e_7
  replace c_e_8 := cell_later hs4 c_e_8
  replace c_r_0 := cell_later hs4 c_r_0
  replace c_r_1 := cell_later hs4 c_r_1
  replace c_r_2 := cell_later hs4 c_r_2
  replace c_r_3 := cell_later hs4 c_r_3
  replace c_r_4 := cell_later hs4 c_r_4
  replace c_r_5 := cell_later hs4 c_r_5
  replace c_r_6 := cell_later hs4 c_r_6
  replace c_r_7 := cell_later hs4 c_r_7
  replace c_r_8 := cell_later hs4 c_r_8
  clear z_e
  have z_e : w2.heap.size < _ := World.block_lt_of_cell? _ _ c_e_0
  clear z_r
  have z_r : w2.heap.size + 1 < _ := World.block_lt_of_cell? _ _ c_r_0
  have hB4 := below_two hB3 hs4
  clear hB3 hs4
  go_wp2_with fail
  have hR' := hR.below hB4
  refine (eright_is (x := ⟨0, [], [], 2, 0, 0, 0, [], s⟩) HW3.out _ _ _ _ ⟨Sl.none _ _ _, Sl.none _ _ _, Sl.none _ _ _, HSZ.out⟩ hR').mono ?_
  rintro e w5 ⟨rfl, hb5⟩
  clear hR'
  have hs5 := hb5
  replace SE := Lib.hid (SE.out.later hs5)
  replace c_e_0 := cell_later hs5 c_e_0
  replace c_e_1 := cell_later hs5 c_e_1
  replace c_e_2 := cell_later hs5 c_e_2
  replace c_e_3 := cell_later hs5 c_e_3
  replace c_e_4 := cell_later hs5 c_e_4
  replace c_e_5 := cell_later hs5 c_e_5
  replace c_e_6 := cell_later hs5 c_e_6
  replace c_e_7 := cell_later hs5 c_e_7
  replace c_e_8 := cell_later hs5 c_e_8
  replace c_r_0 := cell_later hs5 c_r_0
  replace c_r_1 := cell_later hs5 c_r_1
  replace c_r_2 := cell_later hs5 c_r_2
  replace c_r_3 := cell_later hs5 c_r_3
  replace c_r_4 := cell_later hs5 c_r_4
  replace c_r_5 := cell_later hs5 c_r_5
  replace c_r_6 := cell_later hs5 c_r_6
  replace c_r_7 := cell_later hs5 c_r_7
  replace c_r_8 := cell_later hs5 c_r_8
  clear z_e
  have z_e : w2.heap.size < _ := World.block_lt_of_cell? _ _ c_e_0
  clear z_r
  have z_r : w2.heap.size + 1 < _ := World.block_lt_of_cell? _ _ c_r_0
  have hB5 := below_two hB4 hs5
  clear hB4 hs5
  go_wp2
  go_ret
  exact ⟨rfl, hB5⟩

set_option maxRecDepth 100000 in
set_option maxHeartbeats 40000000 in
theorem words_false (s : ByteArray) (w : World) (hR : Ready w) (hl : ¬ (100 : Int) < (s.size : Int)) (e1 : (s.toList == []) = false) (HW1 : Hid (Evt.right (evC 0 false s) = false)) (HW2 : Hid (Evt.wordR s = false)) (HW3 : Hid (Evt.right ⟨0, [], [], 2, 0, 0, 0, [], s⟩ = false)) (HSZ : Hid ((s : ByteArray).size ≤ 140737488355328)) :
    Calls Tryd.prog 14 #[.string s] w fun ed w' => ed = .returned (.bool true) ∧ Below w.heap.size w w' := by
  have hB0 : Below w.heap.size w w := Below.refl _ _
  go_enter Tryd.func14, Tryd.ntmps14
  go_wp2_with fail
  have hR' := hR.below hB0
  refine (awake_any _ hR').mono ?_
  rintro e w1 ⟨rfl, hb1⟩
  clear hR'
  have hs1 := hb1
  have hB1 := below_two hB0 hs1
  clear hB0 hs1
  go_wp2_with fail
  have hR' := hR.below hB1
  refine (c_any 0 false _).mono ?_
  rintro e w2 ⟨⟨p1, q1, r1, s1, rfl, hev⟩, hb2⟩
  clear hR'
  have hs2 := hb2
  have hB2 := below_two hB1 hs2
  clear hB1 hs2
  have HE := Lib.hid hev
  clear hev
  have SE : Hid (Since w2 w2) := Lib.hid (Since.refl _)
  go_wp2_with fail
  have hR' := hR.below ((hB2.alloc hB2.size (.cells #[.int .i64 1, .slice p1 1 q1, .slice r1 1 s1, .int .i64 2, .int .i64 0, .int .i64 0, .int .i64 0, .slice none 0 0, .string s] 28)).alloc (hB2.alloc hB2.size (.cells #[.int .i64 1, .slice p1 1 q1, .slice r1 1 s1, .int .i64 2, .int .i64 0, .int .i64 0, .int .i64 0, .slice none 0 0, .string s] 28)).size (.cells #[.int .i64 0, .slice none 0 0, .slice none 0 0, .int .i64 2, .int .i64 0, .int .i64 0, .int .i64 0, .slice none 0 0, .string s] 28))
  refine (eright_is (x := evC 0 false s) HW1.out _ _ _ _ ⟨(HE.out.later (below_two SE.out (by repeat (first | exact Below.refl _ _ | refine Below.alloc ?_ (by simp <;> omega) _)))).ps, (HE.out.later (below_two SE.out (by repeat (first | exact Below.refl _ _ | refine Below.alloc ?_ (by simp <;> omega) _)))).ts, (HE.out.later (below_two SE.out (by repeat (first | exact Below.refl _ _ | refine Below.alloc ?_ (by simp <;> omega) _)))).ms, HSZ.out⟩ hR').mono ?_
  rintro e w3 ⟨rfl, hb3⟩
  clear hR'
  have hs3 : Below w2.heap.size w2 w3 := Below.trans (by repeat (first | exact Below.refl _ _ | refine Below.alloc ?_ (by simp <;> omega) _)) (hb3.mono (by simp <;> omega))
  replace SE := Lib.hid (SE.out.later hs3)
  have c_e_0 : w3.cell? ⟨w2.heap.size, 0, none⟩ = some (.int .i64 1) := (hb3.cell (by simp <;> omega)).trans (by go_simp)
  have c_e_1 : w3.cell? ⟨w2.heap.size, 1, none⟩ = some (.slice p1 1 q1) := (hb3.cell (by simp <;> omega)).trans (by go_simp)
  have c_e_2 : w3.cell? ⟨w2.heap.size, 2, none⟩ = some (.slice r1 1 s1) := (hb3.cell (by simp <;> omega)).trans (by go_simp)
  have c_e_3 : w3.cell? ⟨w2.heap.size, 3, none⟩ = some (.int .i64 2) := (hb3.cell (by simp <;> omega)).trans (by go_simp)
  have c_e_4 : w3.cell? ⟨w2.heap.size, 4, none⟩ = some (.int .i64 0) := (hb3.cell (by simp <;> omega)).trans (by go_simp)
  have c_e_5 : w3.cell? ⟨w2.heap.size, 5, none⟩ = some (.int .i64 0) := (hb3.cell (by simp <;> omega)).trans (by go_simp)
  have c_e_6 : w3.cell? ⟨w2.heap.size, 6, none⟩ = some (.int .i64 0) := (hb3.cell (by simp <;> omega)).trans (by go_simp)
  have c_e_7 : w3.cell? ⟨w2.heap.size, 7, none⟩ = some (.slice none 0 0) := (hb3.cell (by simp <;> omega)).trans (by go_simp)
  have c_e_8 : w3.cell? ⟨w2.heap.size, 8, none⟩ = some (.string s) := (hb3.cell (by simp <;> omega)).trans (by go_simp)
  have c_r_0 : w3.cell? ⟨w2.heap.size + 1, 0, none⟩ = some (.int .i64 0) := (hb3.cell (by simp <;> omega)).trans (by go_simp)
  have c_r_1 : w3.cell? ⟨w2.heap.size + 1, 1, none⟩ = some (.slice none 0 0) := (hb3.cell (by simp <;> omega)).trans (by go_simp)
  have c_r_2 : w3.cell? ⟨w2.heap.size + 1, 2, none⟩ = some (.slice none 0 0) := (hb3.cell (by simp <;> omega)).trans (by go_simp)
  have c_r_3 : w3.cell? ⟨w2.heap.size + 1, 3, none⟩ = some (.int .i64 2) := (hb3.cell (by simp <;> omega)).trans (by go_simp)
  have c_r_4 : w3.cell? ⟨w2.heap.size + 1, 4, none⟩ = some (.int .i64 0) := (hb3.cell (by simp <;> omega)).trans (by go_simp)
  have c_r_5 : w3.cell? ⟨w2.heap.size + 1, 5, none⟩ = some (.int .i64 0) := (hb3.cell (by simp <;> omega)).trans (by go_simp)
  have c_r_6 : w3.cell? ⟨w2.heap.size + 1, 6, none⟩ = some (.int .i64 0) := (hb3.cell (by simp <;> omega)).trans (by go_simp)
  have c_r_7 : w3.cell? ⟨w2.heap.size + 1, 7, none⟩ = some (.slice none 0 0) := (hb3.cell (by simp <;> omega)).trans (by go_simp)
  have c_r_8 : w3.cell? ⟨w2.heap.size + 1, 8, none⟩ = some (.string s) := (hb3.cell (by simp <;> omega)).trans (by go_simp)
  have z_e : w2.heap.size < _ := World.block_lt_of_cell? _ _ c_e_0
  have z_r : w2.heap.size + 1 < _ := World.block_lt_of_cell? _ _ c_r_0
  have hB3 := below_two hB2 hs3
  clear hB2 hs3 hb3
  go_wp2_with fail
  have hR' := hR.below hB3
  refine (plain_word_is (s := s) HW2.out _ HSZ.out).mono ?_
  rintro e w4 ⟨rfl, hb4⟩
  clear hR'
  have hs4 := hb4
  replace SE := Lib.hid (SE.out.later hs4)
  replace c_e_0 := cell_later hs4 c_e_0
  replace c_e_1 := cell_later hs4 c_e_1
  replace c_e_2 := cell_later hs4 c_e_2
  replace c_e_3 := cell_later hs4 c_e_3
  replace c_e_4 := cell_later hs4 c_e_4
  replace c_e_5 := cell_later hs4 c_e_5
  replace c_e_6 := cell_later hs4 c_e_6
  replace c_e_7 := cell_later hs4 c_e_7
  replace c_e_8 := cell_later hs4 c_e_8
  replace c_r_0 := cell_later hs4 c_r_0
  replace c_r_1 := cell_later hs4 c_r_1
  replace c_r_2 := cell_later hs4 c_r_2
  replace c_r_3 := cell_later hs4 c_r_3
  replace c_r_4 := cell_later hs4 c_r_4
  replace c_r_5 := cell_later hs4 c_r_5
  replace c_r_6 := cell_later hs4 c_r_6
  replace c_r_7 := cell_later hs4 c_r_7
  replace c_r_8 := cell_later hs4 c_r_8
  clear z_e
  have z_e : w2.heap.size < _ := World.block_lt_of_cell? _ _ c_e_0
  clear z_r
  have z_r : w2.heap.size + 1 < _ := World.block_lt_of_cell? _ _ c_r_0
  have hB4 := below_two hB3 hs4
  clear hB3 hs4
  go_wp2_with fail
  have hR' := hR.below hB4
  refine (eright_is (x := ⟨0, [], [], 2, 0, 0, 0, [], s⟩) HW3.out _ _ _ _ ⟨Sl.none _ _ _, Sl.none _ _ _, Sl.none _ _ _, HSZ.out⟩ hR').mono ?_
  rintro e w5 ⟨rfl, hb5⟩
  clear hR'
  have hs5 := hb5
  replace SE := Lib.hid (SE.out.later hs5)
  replace c_e_0 := cell_later hs5 c_e_0
  replace c_e_1 := cell_later hs5 c_e_1
  replace c_e_2 := cell_later hs5 c_e_2
  replace c_e_3 := cell_later hs5 c_e_3
  replace c_e_4 := cell_later hs5 c_e_4
  replace c_e_5 := cell_later hs5 c_e_5
  replace c_e_6 := cell_later hs5 c_e_6
  replace c_e_7 := cell_later hs5 c_e_7
  replace c_e_8 := cell_later hs5 c_e_8
  replace c_r_0 := cell_later hs5 c_r_0
  replace c_r_1 := cell_later hs5 c_r_1
  replace c_r_2 := cell_later hs5 c_r_2
  replace c_r_3 := cell_later hs5 c_r_3
  replace c_r_4 := cell_later hs5 c_r_4
  replace c_r_5 := cell_later hs5 c_r_5
  replace c_r_6 := cell_later hs5 c_r_6
  replace c_r_7 := cell_later hs5 c_r_7
  replace c_r_8 := cell_later hs5 c_r_8
  clear z_e
  have z_e : w2.heap.size < _ := World.block_lt_of_cell? _ _ c_e_0
  clear z_r
  have z_r : w2.heap.size + 1 < _ := World.block_lt_of_cell? _ _ c_r_0
  have hB5 := below_two hB4 hs5
  clear hB4 hs5
  go_wp2
  go_ret
  exact ⟨rfl, hB5⟩

theorem words_any (s : ByteArray) (w : World) (hR : Ready w) (_hs : s.size ≤ maxLen) : Calls Tryd.prog 14 #[.string s] w fun ed w' => ed = .returned (.bool true) ∧ Below w.heap.size w w' := by
  by_cases hl : (100 : Int) < (s.size : Int)
  · exact words_long s w hR hl
  have hz : s.size ≤ 140737488355328 := by omega
  by_cases h0 : s.size = 0
  · obtain rfl := Evt.size0 h0
    exact words_empty w hR (Lib.hid (by decide +kernel)) (Lib.hid (by decide +kernel)) (Lib.hid (by decide +kernel)) (Lib.hid hz)
  have e1 : (s.toList == []) = false := by
    have h1 := str_ne (t := ByteArray.empty) (size_ne h0)
    have h2 : ByteArray.empty.toList = [] := by first | rfl | decide +kernel | simp
    rw [h2] at h1
    exact h1
  cases hw : Evt.wordR s
  · exact words_false s w hR hl e1 (Lib.hid (by rw [word_chord, hw])) (Lib.hid hw) (Lib.hid (word_rest h0)) (Lib.hid hz)
  · exact words_true s w hR hl e1 (Lib.hid (by rw [word_chord, hw])) (Lib.hid hw) (Lib.hid (word_rest h0)) (Lib.hid hz)
end Go.Proofs.YtoiankbopjaamaaDoor
