/-
  The program's contracts as the laws use them; the contract of the statements' examples.
-/
import Derived.Test.YtlodhfdikglgoaaMetJ
namespace Go.Proofs.Ytlodhfdikglgoaa
open Go.RowKit

theorem beats_right {q d : Int} {v : Value} {gs : List Int} {w : World} (hI : Ints w v gs) (hr : Met.right q d gs = true) {L : List Met.Pr} (h : Met.bt q d gs = L) :
    Calls Try.prog 14 #[mt q d v] w fun ed w' => (∃ u, ed = .returned (.tuple #[u, .int .i64 0]) ∧ Prs w' u L) ∧ Below w.heap.size w w' := by rw [← h]; exact mbeats_yes q d v gs w hI hr
theorem beats_wrong {q d : Int} {v : Value} {gs : List Int} {w : World} (hI : Ints w v gs) (hr : Met.right q d gs = false) :
    Calls Try.prog 14 #[mt q d v] w fun ed w' => (∃ u, ed = .returned (.tuple #[u, .int .i64 50]) ∧ Prs w' u []) ∧ Below w.heap.size w w' := (mbeats_no q d v gs w hI hr).mono fun _ _ ⟨he, hb⟩ => ⟨⟨_, he, Prs.none _⟩, hb⟩
theorem weight_is {q d : Int} {v : Value} {gs : List Int} {w : World} (hI : Ints w v gs) {a b x e : Int} (h1 : Met.wtV q d gs (a, b) = x) (h2 : Met.wtE q d gs (a, b) = e) :
    Calls Try.prog 22 #[mt q d v, rt a b] w fun ed w' => ed = .returned (.tuple #[.int .i64 x, .int .i64 e]) ∧ Below w.heap.size w w' := by have := weight_any q d v gs a b w hI; rw [h1, h2] at this; exact this
theorem cut_is {q d : Int} {v : Value} {gs : List Int} {w : World} (hI : Ints w v gs) {a b c e E : Int} {L : List Met.Pr} (h : Met.ct q d gs (a, b) (c, e) = (E, L)) :
    Calls Try.prog 24 #[mt q d v, rt a b, rt c e] w fun ed w' => (∃ u, ed = .returned (.tuple #[u, .int .i64 E]) ∧ Prs w' u L) ∧ Below w.heap.size w w' := by have := mcut_any q d v gs a b c e w hI; rw [h] at this; exact this.mono fun _ _ ⟨⟨u, he, hu⟩, hb⟩ => ⟨⟨u, he, hu.1⟩, hb⟩
theorem cut_cap {q d : Int} {v : Value} {gs : List Int} {w : World} (hI : Ints w v gs) {a b c e E : Int} {L : List Met.Pr} (h : Met.ct q d gs (a, b) (c, e) = (E, L)) :
    Calls Try.prog 24 #[mt q d v, rt a b, rt c e] w fun ed w' => (∃ u, ed = .returned (.tuple #[u, .int .i64 E]) ∧ PrsC w' u L) ∧ Below w.heap.size w w' := by have := mcut_any q d v gs a b c e w hI; rw [h] at this; exact this
theorem ratios_is {v u : Value} {xs ys : List Met.Pr} {w : World} (h1 : Prs w v xs) (h2 : Prs w u ys) {t : Bool} (h : decide (xs = ys) = t) :
    Calls Try.prog 20 #[v, u] w fun ed w' => ed = .returned (.bool t) ∧ Below w.heap.size w w' := by have := ratios_any v u xs ys w h1 h2; rw [h] at this; exact this
theorem same_is {n d n' d' : Int} {v u : Value} {xs ys : List Int} {w : World} (h1 : Ints w v xs) (h2 : Ints w u ys) {t : Bool} (h : decide (n = n' ∧ d = d' ∧ xs = ys) = t) :
    Calls Try.prog 18 #[mt n d v, mt n' d' u] w fun ed w' => ed = .returned (.bool t) ∧ Below w.heap.size w w' := by have := msame_any n d n' d' v u xs ys w h1 h2; rw [h] at this; exact this
theorem prs2 {W : World} {B cap : Nat} {a b c d : Int} (h0 : W.cell? ⟨B, 0, none⟩ = some (.int .i64 a)) (h1 : W.cell? ⟨B, 1, none⟩ = some (.int .i64 b)) (h2 : W.cell? ⟨B, 2, none⟩ = some (.int .i64 c)) (h3 : W.cell? ⟨B, 3, none⟩ = some (.int .i64 d)) : Prs W (.slice (some ⟨B, 0, none⟩) 2 cap) [(a, b), (c, d)] :=
  ⟨_, cap, rfl, by simp, fun i x hx => by
    rcases i with _ | _ | i
    · simp at hx; subst hx; exact ⟨B, 0, rfl, h0, h1⟩
    · simp at hx; subst hx; exact ⟨B, 0, rfl, h2, h3⟩
    · simp at hx⟩
theorem prs3 {W : World} {B cap : Nat} {a b c d e f : Int} (h0 : W.cell? ⟨B, 0, none⟩ = some (.int .i64 a)) (h1 : W.cell? ⟨B, 1, none⟩ = some (.int .i64 b)) (h2 : W.cell? ⟨B, 2, none⟩ = some (.int .i64 c)) (h3 : W.cell? ⟨B, 3, none⟩ = some (.int .i64 d)) (h4 : W.cell? ⟨B, 4, none⟩ = some (.int .i64 e)) (h5 : W.cell? ⟨B, 5, none⟩ = some (.int .i64 f)) : Prs W (.slice (some ⟨B, 0, none⟩) 3 cap) [(a, b), (c, d), (e, f)] :=
  ⟨_, cap, rfl, by simp, fun i x hx => by
    rcases i with _ | _ | _ | i
    · simp at hx; subst hx; exact ⟨B, 0, rfl, h0, h1⟩
    · simp at hx; subst hx; exact ⟨B, 0, rfl, h2, h3⟩
    · simp at hx; subst hx; exact ⟨B, 0, rfl, h4, h5⟩
    · simp at hx⟩
theorem ex1 : Met.right 6 8 [] = true := by decide +kernel
theorem ex2 : Met.of 6 8 = (3, 4) := by decide +kernel
theorem ex3 : Met.bt 6 8 [] = [(0, 1), (3, 8)] := by decide +kernel
theorem ex4 : Met.wtV 6 8 [] (3, 8) = 2 ∧ Met.wtE 6 8 [] (3, 8) = 0 := by decide +kernel
theorem ex5 : Met.ct 4 4 [] (1, 8) (1, 2) = (0, [(1, 8), (1, 4), (1, 8)]) := by decide +kernel
theorem ex6 : Met.wtV 6 8 [] (3, 4) = 0 ∧ Met.wtE 6 8 [] (3, 4) = 2 := by decide +kernel
theorem ex7 : Met.right 6 7 [] = false := by decide +kernel
theorem ex8 : Met.ct 6 8 [] (1, 2) (1, 2) = (2, []) := by decide +kernel

set_option maxRecDepth 100000 in
set_option maxHeartbeats 4000000 in
theorem awake_any (w : World) :
    Calls Try.prog 10 #[] w fun ed w' => ed = .returned (.bool true) ∧ Below w.heap.size w w' := by
  have hgR := guardR
  have heR := eql_rt
  have hsR := eqR_self
  have hB0 : Below w.heap.size w w := Below.refl _ _
  go_enter Try.func10, Try.ntmps10
  go_wp2_with fail
  refine (mlength_right (Ints.none _) ex1 ex2).mono ?_
  rintro e w1 ⟨rfl, hb1⟩
  have hs1 : Below w.heap.size w w1 := Below.trans (by repeat (first | exact Below.refl _ _ | refine Below.alloc ?_ (by simp <;> omega) _)) (hb1.mono (by simp <;> omega))
  have c_m_0 : w1.cell? ⟨w.heap.size, 0, none⟩ = some (.int .i64 6) := (hb1.cell (by simp <;> omega)).trans (by go_simp)
  have c_m_1 : w1.cell? ⟨w.heap.size, 1, none⟩ = some (.int .i64 8) := (hb1.cell (by simp <;> omega)).trans (by go_simp)
  have c_m_2 : w1.cell? ⟨w.heap.size, 2, none⟩ = some (.slice none 0 0) := (hb1.cell (by simp <;> omega)).trans (by go_simp)
  have z_m := World.block_lt_of_cell? _ _ c_m_0
  have hB1 := below_two hB0 hs1
  clear hB0 hs1 hb1
  go_wp2_with fail
  refine (beats_right (Ints.none _) ex1 ex3).mono ?_
  rintro e w2 ⟨⟨u1, rfl, hP1⟩, hb2⟩
  have hs2 : Below w1.heap.size w1 w2 := Below.trans (by repeat (first | exact Below.refl _ _ | refine Below.alloc ?_ (by simp <;> omega) _)) (hb2.mono (by simp <;> omega))
  replace c_m_0 := cell_later hs2 c_m_0
  replace c_m_1 := cell_later hs2 c_m_1
  replace c_m_2 := cell_later hs2 c_m_2
  have c_l_0 : w2.cell? ⟨w1.heap.size, 0, none⟩ = some (.int .i64 3) := (hb2.cell (by simp <;> omega)).trans (by go_simp)
  have c_l_1 : w2.cell? ⟨w1.heap.size, 1, none⟩ = some (.int .i64 4) := (hb2.cell (by simp <;> omega)).trans (by go_simp)
  have z_l := World.block_lt_of_cell? _ _ c_l_0
  clear z_m
  have z_m := World.block_lt_of_cell? _ _ c_m_0
  have hB2 := below_two hB1 hs2
  clear hB1 hs2 hb2
  have HP1 := Lib.hid hP1
  clear hP1
  go_wp2_with fail
  refine (weight_is (Ints.none _) ex4.1 ex4.2).mono ?_
  rintro e w3 ⟨rfl, hb3⟩
  have hs3 := hb3
  replace HP1 := Lib.hid (HP1.out.later hs3)
  replace c_m_0 := cell_later hs3 c_m_0
  replace c_m_1 := cell_later hs3 c_m_1
  replace c_m_2 := cell_later hs3 c_m_2
  replace c_l_0 := cell_later hs3 c_l_0
  replace c_l_1 := cell_later hs3 c_l_1
  clear z_l
  have z_l := World.block_lt_of_cell? _ _ c_l_0
  clear z_m
  have z_m := World.block_lt_of_cell? _ _ c_m_0
  have hB3 := below_two hB2 hs3
  clear hB2 hs3
  go_wp2_with fail
  refine (cut_is (Ints.none _) ex5).mono ?_
  rintro e w4 ⟨⟨u2, rfl, hP2⟩, hb4⟩
  have hs4 := hb4
  replace HP1 := Lib.hid (HP1.out.later hs4)
  replace c_m_0 := cell_later hs4 c_m_0
  replace c_m_1 := cell_later hs4 c_m_1
  replace c_m_2 := cell_later hs4 c_m_2
  replace c_l_0 := cell_later hs4 c_l_0
  replace c_l_1 := cell_later hs4 c_l_1
  clear z_l
  have z_l := World.block_lt_of_cell? _ _ c_l_0
  clear z_m
  have z_m := World.block_lt_of_cell? _ _ c_m_0
  have hB4 := below_two hB3 hs4
  clear hB3 hs4
  have HP2 := Lib.hid hP2
  clear hP2
  go_wp2_with fail
  refine (weight_is (Ints.none _) ex6.1 ex6.2).mono ?_
  rintro e w5 ⟨rfl, hb5⟩
  have hs5 := hb5
  replace HP1 := Lib.hid (HP1.out.later hs5)
  replace HP2 := Lib.hid (HP2.out.later hs5)
  replace c_m_0 := cell_later hs5 c_m_0
  replace c_m_1 := cell_later hs5 c_m_1
  replace c_m_2 := cell_later hs5 c_m_2
  replace c_l_0 := cell_later hs5 c_l_0
  replace c_l_1 := cell_later hs5 c_l_1
  clear z_l
  have z_l := World.block_lt_of_cell? _ _ c_l_0
  clear z_m
  have z_m := World.block_lt_of_cell? _ _ c_m_0
  have hB5 := below_two hB4 hs5
  clear hB4 hs5
  go_wp2_with fail
  refine (beats_wrong (Ints.none _) ex7).mono ?_
  rintro e w6 ⟨⟨u3, rfl, _⟩, hb6⟩
  have hs6 := hb6
  replace HP1 := Lib.hid (HP1.out.later hs6)
  replace HP2 := Lib.hid (HP2.out.later hs6)
  replace c_m_0 := cell_later hs6 c_m_0
  replace c_m_1 := cell_later hs6 c_m_1
  replace c_m_2 := cell_later hs6 c_m_2
  replace c_l_0 := cell_later hs6 c_l_0
  replace c_l_1 := cell_later hs6 c_l_1
  clear z_l
  have z_l := World.block_lt_of_cell? _ _ c_l_0
  clear z_m
  have z_m := World.block_lt_of_cell? _ _ c_m_0
  have hB6 := below_two hB5 hs6
  clear hB5 hs6
  go_wp2_with fail
  refine (cut_is (Ints.none _) ex8).mono ?_
  rintro e w7 ⟨⟨u4, rfl, _⟩, hb7⟩
  have hs7 := hb7
  replace HP1 := Lib.hid (HP1.out.later hs7)
  replace HP2 := Lib.hid (HP2.out.later hs7)
  replace c_m_0 := cell_later hs7 c_m_0
  replace c_m_1 := cell_later hs7 c_m_1
  replace c_m_2 := cell_later hs7 c_m_2
  replace c_l_0 := cell_later hs7 c_l_0
  replace c_l_1 := cell_later hs7 c_l_1
  clear z_l
  have z_l := World.block_lt_of_cell? _ _ c_l_0
  clear z_m
  have z_m := World.block_lt_of_cell? _ _ c_m_0
  have hB7 := below_two hB6 hs7
  clear hB6 hs7
  go_wp2_with fail
  refine (mright_is (Ints.none _) ex1).mono ?_
  rintro e w8 ⟨rfl, hb8⟩
  have hs8 := hb8
  replace HP1 := Lib.hid (HP1.out.later hs8)
  replace HP2 := Lib.hid (HP2.out.later hs8)
  replace c_m_0 := cell_later hs8 c_m_0
  replace c_m_1 := cell_later hs8 c_m_1
  replace c_m_2 := cell_later hs8 c_m_2
  replace c_l_0 := cell_later hs8 c_l_0
  replace c_l_1 := cell_later hs8 c_l_1
  clear z_l
  have z_l := World.block_lt_of_cell? _ _ c_l_0
  clear z_m
  have z_m := World.block_lt_of_cell? _ _ c_m_0
  have hB8 := below_two hB7 hs8
  clear hB7 hs8
  go_wp2_with fail
  have hs9 : Below w8.heap.size w8 (w8.alloc (.cells #[.int .i64 0, .int .i64 1, .int .i64 3, .int .i64 8] 26)) := by repeat (first | exact Below.refl _ _ | refine Below.alloc ?_ (by simp <;> omega) _)
  replace HP1 := Lib.hid (HP1.out.later hs9)
  replace HP2 := Lib.hid (HP2.out.later hs9)
  replace c_m_0 := cell_later hs9 c_m_0
  replace c_m_1 := cell_later hs9 c_m_1
  replace c_m_2 := cell_later hs9 c_m_2
  replace c_l_0 := cell_later hs9 c_l_0
  replace c_l_1 := cell_later hs9 c_l_1
  have c_s_0 : (w8.alloc (.cells #[.int .i64 0, .int .i64 1, .int .i64 3, .int .i64 8] 26)).cell? ⟨w8.heap.size, 0, none⟩ = some (.int .i64 0) := by go_simp
  have c_s_1 : (w8.alloc (.cells #[.int .i64 0, .int .i64 1, .int .i64 3, .int .i64 8] 26)).cell? ⟨w8.heap.size, 1, none⟩ = some (.int .i64 1) := by go_simp
  have c_s_2 : (w8.alloc (.cells #[.int .i64 0, .int .i64 1, .int .i64 3, .int .i64 8] 26)).cell? ⟨w8.heap.size, 2, none⟩ = some (.int .i64 3) := by go_simp
  have c_s_3 : (w8.alloc (.cells #[.int .i64 0, .int .i64 1, .int .i64 3, .int .i64 8] 26)).cell? ⟨w8.heap.size, 3, none⟩ = some (.int .i64 8) := by go_simp
  have hB9 := below_two hB8 hs9
  clear hB8 hs9
  have y9_l := z_l
  have y9_m := z_m
  generalize (w8.alloc (.cells #[.int .i64 0, .int .i64 1, .int .i64 3, .int .i64 8] 26)) = w9 at *
  clear z_l
  have z_l := World.block_lt_of_cell? _ _ c_l_0
  clear z_m
  have z_m := World.block_lt_of_cell? _ _ c_m_0
  have z_s := World.block_lt_of_cell? _ _ c_s_0
  go_wp2_with fail
  refine (ratios_is HP1.out (prs2 c_s_0 c_s_1 c_s_2 c_s_3) (t := true) (by decide +kernel)).mono ?_
  rintro e w10 ⟨rfl, hb10⟩
  have hs10 := hb10
  replace HP1 := Lib.hid (HP1.out.later hs10)
  replace HP2 := Lib.hid (HP2.out.later hs10)
  replace c_m_0 := cell_later hs10 c_m_0
  replace c_m_1 := cell_later hs10 c_m_1
  replace c_m_2 := cell_later hs10 c_m_2
  replace c_l_0 := cell_later hs10 c_l_0
  replace c_l_1 := cell_later hs10 c_l_1
  replace c_s_0 := cell_later hs10 c_s_0
  replace c_s_1 := cell_later hs10 c_s_1
  replace c_s_2 := cell_later hs10 c_s_2
  replace c_s_3 := cell_later hs10 c_s_3
  clear z_l
  have z_l := World.block_lt_of_cell? _ _ c_l_0
  clear z_m
  have z_m := World.block_lt_of_cell? _ _ c_m_0
  clear z_s
  have z_s := World.block_lt_of_cell? _ _ c_s_0
  have hB10 := below_two hB9 hs10
  clear hB9 hs10
  go_wp2_with fail
  have hs11 : Below w10.heap.size w10 (w10.alloc (.cells #[.int .i64 1, .int .i64 8, .int .i64 1, .int .i64 4, .int .i64 1, .int .i64 8] 26)) := by repeat (first | exact Below.refl _ _ | refine Below.alloc ?_ (by simp <;> omega) _)
  clear c_s_0
  clear c_s_1
  clear c_s_2
  clear c_s_3
  replace HP1 := Lib.hid (HP1.out.later hs11)
  replace HP2 := Lib.hid (HP2.out.later hs11)
  replace c_m_0 := cell_later hs11 c_m_0
  replace c_m_1 := cell_later hs11 c_m_1
  replace c_m_2 := cell_later hs11 c_m_2
  replace c_l_0 := cell_later hs11 c_l_0
  replace c_l_1 := cell_later hs11 c_l_1
  have c_t_0 : (w10.alloc (.cells #[.int .i64 1, .int .i64 8, .int .i64 1, .int .i64 4, .int .i64 1, .int .i64 8] 26)).cell? ⟨w10.heap.size, 0, none⟩ = some (.int .i64 1) := by go_simp
  have c_t_1 : (w10.alloc (.cells #[.int .i64 1, .int .i64 8, .int .i64 1, .int .i64 4, .int .i64 1, .int .i64 8] 26)).cell? ⟨w10.heap.size, 1, none⟩ = some (.int .i64 8) := by go_simp
  have c_t_2 : (w10.alloc (.cells #[.int .i64 1, .int .i64 8, .int .i64 1, .int .i64 4, .int .i64 1, .int .i64 8] 26)).cell? ⟨w10.heap.size, 2, none⟩ = some (.int .i64 1) := by go_simp
  have c_t_3 : (w10.alloc (.cells #[.int .i64 1, .int .i64 8, .int .i64 1, .int .i64 4, .int .i64 1, .int .i64 8] 26)).cell? ⟨w10.heap.size, 3, none⟩ = some (.int .i64 4) := by go_simp
  have c_t_4 : (w10.alloc (.cells #[.int .i64 1, .int .i64 8, .int .i64 1, .int .i64 4, .int .i64 1, .int .i64 8] 26)).cell? ⟨w10.heap.size, 4, none⟩ = some (.int .i64 1) := by go_simp
  have c_t_5 : (w10.alloc (.cells #[.int .i64 1, .int .i64 8, .int .i64 1, .int .i64 4, .int .i64 1, .int .i64 8] 26)).cell? ⟨w10.heap.size, 5, none⟩ = some (.int .i64 8) := by go_simp
  have hB11 := below_two hB10 hs11
  clear hB10 hs11
  have y11_l := z_l
  have y11_m := z_m
  have y11_s := z_s
  generalize (w10.alloc (.cells #[.int .i64 1, .int .i64 8, .int .i64 1, .int .i64 4, .int .i64 1, .int .i64 8] 26)) = w11 at *
  clear z_l
  have z_l := World.block_lt_of_cell? _ _ c_l_0
  clear z_m
  have z_m := World.block_lt_of_cell? _ _ c_m_0
  have z_t := World.block_lt_of_cell? _ _ c_t_0
  clear z_s
  go_wp2_with fail
  refine (ratios_is HP2.out (prs3 c_t_0 c_t_1 c_t_2 c_t_3 c_t_4 c_t_5) (t := true) (by decide +kernel)).mono ?_
  rintro e w12 ⟨rfl, hb12⟩
  have hs12 := hb12
  clear c_t_0
  clear c_t_1
  clear c_t_2
  clear c_t_3
  clear c_t_4
  clear c_t_5
  replace HP1 := Lib.hid (HP1.out.later hs12)
  replace HP2 := Lib.hid (HP2.out.later hs12)
  replace c_m_0 := cell_later hs12 c_m_0
  replace c_m_1 := cell_later hs12 c_m_1
  replace c_m_2 := cell_later hs12 c_m_2
  replace c_l_0 := cell_later hs12 c_l_0
  replace c_l_1 := cell_later hs12 c_l_1
  clear z_l
  have z_l := World.block_lt_of_cell? _ _ c_l_0
  clear z_m
  have z_m := World.block_lt_of_cell? _ _ c_m_0
  clear z_t
  have hB12 := below_two hB11 hs12
  clear hB11 hs12
  go_wp2_with fail
  refine (same_is (Ints.none _) (Ints.none _) (t := true) (by decide)).mono ?_
  rintro e w13 ⟨rfl, hb13⟩
  have hs13 := hb13
  replace HP1 := Lib.hid (HP1.out.later hs13)
  replace HP2 := Lib.hid (HP2.out.later hs13)
  replace c_m_0 := cell_later hs13 c_m_0
  replace c_m_1 := cell_later hs13 c_m_1
  replace c_m_2 := cell_later hs13 c_m_2
  replace c_l_0 := cell_later hs13 c_l_0
  replace c_l_1 := cell_later hs13 c_l_1
  clear z_l
  have z_l := World.block_lt_of_cell? _ _ c_l_0
  clear z_m
  have z_m := World.block_lt_of_cell? _ _ c_m_0
  have hB13 := below_two hB12 hs13
  clear hB12 hs13
  go_wp2_with fail
  refine (same_is (Ints.none _) (Ints.none _) (t := false) (by decide)).mono ?_
  rintro e w14 ⟨rfl, hb14⟩
  have hs14 := hb14
  replace HP1 := Lib.hid (HP1.out.later hs14)
  replace HP2 := Lib.hid (HP2.out.later hs14)
  replace c_m_0 := cell_later hs14 c_m_0
  replace c_m_1 := cell_later hs14 c_m_1
  replace c_m_2 := cell_later hs14 c_m_2
  replace c_l_0 := cell_later hs14 c_l_0
  replace c_l_1 := cell_later hs14 c_l_1
  clear z_l
  have z_l := World.block_lt_of_cell? _ _ c_l_0
  clear z_m
  have z_m := World.block_lt_of_cell? _ _ c_m_0
  have hB14 := below_two hB13 hs14
  clear hB13 hs14
  go_wp2
  go_ret
  exact ⟨rfl, hB14⟩
end Go.Proofs.Ytlodhfdikglgoaa
