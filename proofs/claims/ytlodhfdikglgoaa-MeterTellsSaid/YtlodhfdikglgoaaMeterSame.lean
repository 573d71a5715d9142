/-
  MeterSame answers true: the law's walk.
-/
import Derived.Test.YtlodhfdikglgoaaMetRow
import Derived.Lib.QuietBelow
import Derived.BigQuiet
import Derived.Deep.AppendLies
import Derived.Deep.RegionHeld3
namespace Go.Proofs.Ytlodhfdikglgoaa
open Go.RowKit

theorem addr_add (b o i : Nat) : Addr.add ⟨b, o, none⟩ i = ⟨b, o + i, none⟩ := by
  unfold Addr.add
  split
  · simp_all
  · rfl
theorem news_of {W : World} {b o cap n : Nat} {l : List Int} (h : Ints W (.slice (some ⟨b, o, none⟩) n cap) l) (j : Nat) (u : Value) (hj : (l.map (fun z => Value.int .i64 z))[j]? = some u) : W.cell? (Addr.add ⟨b, o, none⟩ j) = some u := by
  rw [List.getElem?_map] at hj
  obtain ⟨x, hx, rfl⟩ := Option.map_eq_some_iff.1 hj
  obtain ⟨p, cap', e, _, hc⟩ := h
  obtain ⟨b', o', e2, hcell⟩ := hc j x hx
  subst e2
  cases e
  rw [addr_add]
  exact hcell
theorem one_cells (l : List Int) : ∀ u ∈ l.map (fun z => Value.int .i64 z), u.oneCell' = true := by
  intro u hu
  obtain ⟨x, _, rfl⟩ := List.mem_map.1 hu
  rfl
theorem copied_below {W1 w5 w6 : World} {o : Obj} {v5 : Value} {e : TypeId} {size n : Nat} {xs : List Value} (hg5 : W1.grownBy w5 none) (hown5 : w5.ownsRow W1.heap.size e size v5 n xs) (hg6 : (w5.alloc o).grownBy w6 v5.ownBlock) : Below W1.heap.size W1 w6 := by
  have h5 : Below W1.heap.size W1 w5 := (Below.refl _ _).grown hg5 (Nat.le_refl _) (fun k e => by cases e)
  exact (h5.alloc h5.size o).grown hg6 (by have := h5.size; simp; omega) (fun k e => (hown5.lt k e).1)
theorem ints_row {W : World} {base g k n : Nat} {l : List Int} {x : Int} (hl : l.length + 1 ≤ 140737488355328) (h : W.ownsRow base 3 1 (.slice (some ⟨g, 0, none⟩) n k) (l.length + 1) (l.map (fun z => Value.int .i64 z) ++ [.int .i64 x])) : Ints W (.slice (some ⟨g, 0, none⟩) n k) (l ++ [x]) :=
  (intsK_of (n₀ := 0) (by simpa using hl) (by rw [List.length_append, List.map_append]; exact h)).ints
theorem meter_is {a b N D : Int} (hN : mkN a = N) (hD : mkD b = D) (v : Value) (gs : List Int) (w : World) (hI : Ints w v gs) (ia : Rat.I64 a) (ib : Rat.I64 b) (hgs : ∀ z ∈ gs, Rat.I64 z) (gr : Bool) :
    Calls Try.prog 11 #[mt a b v, .bool gr] w fun ed w' => (∃ u, ed = .returned (mt N D u) ∧ ∃ l, Ints w' u l ∧ Met.right N D l = true ∧ l.isEmpty = !gr) ∧ Below w.heap.size w w' := by
  subst hN hD; exact meter_any a b v gs w hI ia ib hgs gr

set_option maxRecDepth 100000 in
set_option maxHeartbeats 4000000 in
theorem meterSame_w (a b : Int) (v : Value) (gs : List Int) (a' b' : Int) (v' : Value) (gs' : List Int) (w : World) (hI : Ints w v gs) (hI' : Ints w v' gs') (ia : Rat.I64 a) (ib : Rat.I64 b) (hgs : ∀ z ∈ gs, Rat.I64 z) (ia' : Rat.I64 a') (ib' : Rat.I64 b') (hgs' : ∀ z ∈ gs', Rat.I64 z) : LawHolds 9 #[mt a b v, mt a' b' v'] w := by
  unfold LawHolds
  obtain ⟨px, cx, rfl, hlx, hcx⟩ := hI
  have HX : Hid (Ints w (.slice px gs.length cx) gs) := Lib.hid ⟨px, cx, rfl, hlx, hcx⟩
  obtain ⟨py, cy, rfl, hly, hcy⟩ := hI'
  have HY : Hid (Ints w (.slice py gs'.length cy) gs') := Lib.hid ⟨py, cy, rfl, hly, hcy⟩
  clear hlx hcx hly hcy
  have HGS := Lib.hid hgs
  have HGS' := Lib.hid hgs'
  clear hgs hgs'
  obtain ⟨N, HN⟩ : ∃ N, Hid (mkN a = N) := ⟨_, Lib.hid rfl⟩
  obtain ⟨D, HD⟩ : ∃ D, Hid (mkD b = D) := ⟨_, Lib.hid rfl⟩
  obtain ⟨N', HN'⟩ : ∃ N', Hid (mkN a' = N') := ⟨_, Lib.hid rfl⟩
  obtain ⟨D', HD'⟩ : ∃ D', Hid (mkD b' = D') := ⟨_, Lib.hid rfl⟩
  obtain ⟨X, HXX⟩ : ∃ X, Hid (Met.of N D = X) := ⟨_, Lib.hid rfl⟩
  obtain ⟨x0, x1⟩ := X
  obtain ⟨i0, hi0, hz0, hz1, hz2⟩ := info_parts infoI
  have hgR := guardR
  have heR := eql_rt
  have hnR := neq_rt
  have hsR := eqR_self
  have hB0 : Below w.heap.size w w := Below.refl _ _
  go_enter Try.func9, Try.ntmps9
  go_wp2_with fail
  refine (awake_any _).mono ?_
  rintro e w1 ⟨rfl, hb1⟩
  have hs1 : Below w.heap.size w w1 := Below.trans (by repeat (first | exact Below.refl _ _ | refine Below.alloc ?_ (by simp <;> omega) _)) (hb1.mono (by simp <;> omega))
  have c_x_0 : w1.cell? ⟨w.heap.size, 0, none⟩ = some (.int .i64 a) := (hb1.cell (by simp <;> omega)).trans (by go_simp)
  have c_x_1 : w1.cell? ⟨w.heap.size, 1, none⟩ = some (.int .i64 b) := (hb1.cell (by simp <;> omega)).trans (by go_simp)
  have c_x_2 : w1.cell? ⟨w.heap.size, 2, none⟩ = some (.slice px gs.length cx) := (hb1.cell (by simp <;> omega)).trans (by go_simp)
  have c_y_0 : w1.cell? ⟨w.heap.size + 1, 0, none⟩ = some (.int .i64 (a')) := (hb1.cell (by simp <;> omega)).trans (by go_simp)
  have c_y_1 : w1.cell? ⟨w.heap.size + 1, 1, none⟩ = some (.int .i64 (b')) := (hb1.cell (by simp <;> omega)).trans (by go_simp)
  have c_y_2 : w1.cell? ⟨w.heap.size + 1, 2, none⟩ = some (.slice py gs'.length cy) := (hb1.cell (by simp <;> omega)).trans (by go_simp)
  have z_x := World.block_lt_of_cell? _ _ c_x_0
  have z_y := World.block_lt_of_cell? _ _ c_y_0
  have hB1 := below_two hB0 hs1
  clear hB0 hs1 hb1
  go_wp2_with fail
  have hs2 : Below w1.heap.size w1 w1 := by repeat (first | exact Below.refl _ _ | refine Below.alloc ?_ (by simp <;> omega) _)
  replace c_x_0 := cell_later hs2 c_x_0
  replace c_x_1 := cell_later hs2 c_x_1
  replace c_x_2 := cell_later hs2 c_x_2
  replace c_y_0 := cell_later hs2 c_y_0
  replace c_y_1 := cell_later hs2 c_y_1
  replace c_y_2 := cell_later hs2 c_y_2
  have hB2 := below_two hB1 hs2
  clear hB1 hs2
  have y2_x := z_x
  have y2_y := z_y
  generalize w1 = w2 at *
  clear z_x
  have z_x := World.block_lt_of_cell? _ _ c_x_0
  clear z_y
  have z_y := World.block_lt_of_cell? _ _ c_y_0
  go_wp2_with fail
  refine (meter_is HN.out HD.out _ gs _ (HX.out.later hB2) ia ib HGS.out false).mono ?_
  rintro e w3 ⟨⟨um, rfl, lm, him, hrm, hzm⟩, hb3⟩
  have hs3 := hb3
  replace c_x_0 := cell_later hs3 c_x_0
  replace c_x_1 := cell_later hs3 c_x_1
  replace c_x_2 := cell_later hs3 c_x_2
  replace c_y_0 := cell_later hs3 c_y_0
  replace c_y_1 := cell_later hs3 c_y_1
  replace c_y_2 := cell_later hs3 c_y_2
  clear z_x
  have z_x := World.block_lt_of_cell? _ _ c_x_0
  clear z_y
  have z_y := World.block_lt_of_cell? _ _ c_y_0
  have hB3 := below_two hB2 hs3
  clear hB2 hs3
  obtain ⟨pm, cm, rfl, hlm, hcm⟩ := him
  have HIm : Hid (Ints _ (.slice pm lm.length cm) lm) := Lib.hid ⟨pm, cm, rfl, hlm, hcm⟩
  have HRm := Lib.hid hrm
  clear hcm hrm
  go_wp2_with fail
  have hs4 : Below w3.heap.size w3 (w3.alloc (.cells #[.int .i64 N, .int .i64 D, .slice pm lm.length cm] 24)) := by repeat (first | exact Below.refl _ _ | refine Below.alloc ?_ (by simp <;> omega) _)
  replace HIm := Lib.hid (HIm.out.later hs4)
  replace c_x_0 := cell_later hs4 c_x_0
  replace c_x_1 := cell_later hs4 c_x_1
  replace c_x_2 := cell_later hs4 c_x_2
  replace c_y_0 := cell_later hs4 c_y_0
  replace c_y_1 := cell_later hs4 c_y_1
  replace c_y_2 := cell_later hs4 c_y_2
  have c_m_0 : (w3.alloc (.cells #[.int .i64 N, .int .i64 D, .slice pm lm.length cm] 24)).cell? ⟨w3.heap.size, 0, none⟩ = some (.int .i64 N) := by go_simp
  have c_m_1 : (w3.alloc (.cells #[.int .i64 N, .int .i64 D, .slice pm lm.length cm] 24)).cell? ⟨w3.heap.size, 1, none⟩ = some (.int .i64 D) := by go_simp
  have c_m_2 : (w3.alloc (.cells #[.int .i64 N, .int .i64 D, .slice pm lm.length cm] 24)).cell? ⟨w3.heap.size, 2, none⟩ = some (.slice pm lm.length cm) := by go_simp
  have hB4 := below_two hB3 hs4
  clear hB3 hs4
  have y4_x := z_x
  have y4_y := z_y
  generalize (w3.alloc (.cells #[.int .i64 N, .int .i64 D, .slice pm lm.length cm] 24)) = w4 at *
  have z_m := World.block_lt_of_cell? _ _ c_m_0
  clear z_x
  have z_x := World.block_lt_of_cell? _ _ c_x_0
  clear z_y
  have z_y := World.block_lt_of_cell? _ _ c_y_0
  go_wp2_with fail
  refine (meter_is HN.out HD.out _ gs _ (HX.out.later hB4) ia ib HGS.out true).mono ?_
  rintro e w5 ⟨⟨ug, rfl, lg, hig, hrg, hzg⟩, hb5⟩
  have hs5 := hb5
  replace HIm := Lib.hid (HIm.out.later hs5)
  replace c_x_0 := cell_later hs5 c_x_0
  replace c_x_1 := cell_later hs5 c_x_1
  replace c_x_2 := cell_later hs5 c_x_2
  replace c_y_0 := cell_later hs5 c_y_0
  replace c_y_1 := cell_later hs5 c_y_1
  replace c_y_2 := cell_later hs5 c_y_2
  replace c_m_0 := cell_later hs5 c_m_0
  replace c_m_1 := cell_later hs5 c_m_1
  replace c_m_2 := cell_later hs5 c_m_2
  clear z_m
  have z_m := World.block_lt_of_cell? _ _ c_m_0
  clear z_x
  have z_x := World.block_lt_of_cell? _ _ c_x_0
  clear z_y
  have z_y := World.block_lt_of_cell? _ _ c_y_0
  have hB5 := below_two hB4 hs5
  clear hB4 hs5
  obtain ⟨pg, cg, rfl, hlg, hcg⟩ := hig
  have HIg : Hid (Ints _ (.slice pg lg.length cg) lg) := Lib.hid ⟨pg, cg, rfl, hlg, hcg⟩
  have HRg := Lib.hid hrg
  clear hcg hrg
  go_wp2_with fail
  have hs6 : Below w5.heap.size w5 (w5.alloc (.cells #[.int .i64 N, .int .i64 D, .slice pg lg.length cg] 24)) := by repeat (first | exact Below.refl _ _ | refine Below.alloc ?_ (by simp <;> omega) _)
  clear c_x_0
  clear c_x_1
  clear c_x_2
  replace HIm := Lib.hid (HIm.out.later hs6)
  replace HIg := Lib.hid (HIg.out.later hs6)
  replace c_y_0 := cell_later hs6 c_y_0
  replace c_y_1 := cell_later hs6 c_y_1
  replace c_y_2 := cell_later hs6 c_y_2
  replace c_m_0 := cell_later hs6 c_m_0
  replace c_m_1 := cell_later hs6 c_m_1
  replace c_m_2 := cell_later hs6 c_m_2
  have c_g_0 : (w5.alloc (.cells #[.int .i64 N, .int .i64 D, .slice pg lg.length cg] 24)).cell? ⟨w5.heap.size, 0, none⟩ = some (.int .i64 N) := by go_simp
  have c_g_1 : (w5.alloc (.cells #[.int .i64 N, .int .i64 D, .slice pg lg.length cg] 24)).cell? ⟨w5.heap.size, 1, none⟩ = some (.int .i64 D) := by go_simp
  have c_g_2 : (w5.alloc (.cells #[.int .i64 N, .int .i64 D, .slice pg lg.length cg] 24)).cell? ⟨w5.heap.size, 2, none⟩ = some (.slice pg lg.length cg) := by go_simp
  have hB6 := below_two hB5 hs6
  clear hB5 hs6
  have y6_m := z_m
  have y6_x := z_x
  have y6_y := z_y
  generalize (w5.alloc (.cells #[.int .i64 N, .int .i64 D, .slice pg lg.length cg] 24)) = w6 at *
  have z_g := World.block_lt_of_cell? _ _ c_g_0
  clear z_m
  have z_m := World.block_lt_of_cell? _ _ c_m_0
  clear z_y
  have z_y := World.block_lt_of_cell? _ _ c_y_0
  clear z_x
  go_wp2_with fail
  refine (meter_is HN'.out HD'.out _ gs' _ (HY.out.later hB6) ia' ib' HGS'.out true).mono ?_
  rintro e w7 ⟨⟨un, rfl, ln, hin, hrn, hzn⟩, hb7⟩
  have hs7 := hb7
  replace HIm := Lib.hid (HIm.out.later hs7)
  replace HIg := Lib.hid (HIg.out.later hs7)
  replace c_y_0 := cell_later hs7 c_y_0
  replace c_y_1 := cell_later hs7 c_y_1
  replace c_y_2 := cell_later hs7 c_y_2
  replace c_m_0 := cell_later hs7 c_m_0
  replace c_m_1 := cell_later hs7 c_m_1
  replace c_m_2 := cell_later hs7 c_m_2
  replace c_g_0 := cell_later hs7 c_g_0
  replace c_g_1 := cell_later hs7 c_g_1
  replace c_g_2 := cell_later hs7 c_g_2
  clear z_g
  have z_g := World.block_lt_of_cell? _ _ c_g_0
  clear z_m
  have z_m := World.block_lt_of_cell? _ _ c_m_0
  clear z_y
  have z_y := World.block_lt_of_cell? _ _ c_y_0
  have hB7 := below_two hB6 hs7
  clear hB6 hs7
  obtain ⟨pn, cn, rfl, hln, hcn⟩ := hin
  have HIn : Hid (Ints _ (.slice pn ln.length cn) ln) := Lib.hid ⟨pn, cn, rfl, hln, hcn⟩
  have HRn := Lib.hid hrn
  clear hcn hrn
  go_wp2_with fail
  have hs8 : Below w7.heap.size w7 (w7.alloc (.cells #[.int .i64 (N'), .int .i64 (D'), .slice pn ln.length cn] 24)) := by repeat (first | exact Below.refl _ _ | refine Below.alloc ?_ (by simp <;> omega) _)
  clear c_y_0
  clear c_y_1
  clear c_y_2
  replace HIm := Lib.hid (HIm.out.later hs8)
  replace HIg := Lib.hid (HIg.out.later hs8)
  replace HIn := Lib.hid (HIn.out.later hs8)
  replace c_m_0 := cell_later hs8 c_m_0
  replace c_m_1 := cell_later hs8 c_m_1
  replace c_m_2 := cell_later hs8 c_m_2
  replace c_g_0 := cell_later hs8 c_g_0
  replace c_g_1 := cell_later hs8 c_g_1
  replace c_g_2 := cell_later hs8 c_g_2
  have c_n_0 : (w7.alloc (.cells #[.int .i64 (N'), .int .i64 (D'), .slice pn ln.length cn] 24)).cell? ⟨w7.heap.size, 0, none⟩ = some (.int .i64 (N')) := by go_simp
  have c_n_1 : (w7.alloc (.cells #[.int .i64 (N'), .int .i64 (D'), .slice pn ln.length cn] 24)).cell? ⟨w7.heap.size, 1, none⟩ = some (.int .i64 (D')) := by go_simp
  have c_n_2 : (w7.alloc (.cells #[.int .i64 (N'), .int .i64 (D'), .slice pn ln.length cn] 24)).cell? ⟨w7.heap.size, 2, none⟩ = some (.slice pn ln.length cn) := by go_simp
  have hB8 := below_two hB7 hs8
  clear hB7 hs8
  have y8_g := z_g
  have y8_m := z_m
  have y8_y := z_y
  generalize (w7.alloc (.cells #[.int .i64 (N'), .int .i64 (D'), .slice pn ln.length cn] 24)) = w8 at *
  clear z_g
  have z_g := World.block_lt_of_cell? _ _ c_g_0
  clear z_m
  have z_m := World.block_lt_of_cell? _ _ c_m_0
  have z_n := World.block_lt_of_cell? _ _ c_n_0
  clear z_y
  obtain rfl : lm = [] := by simpa using hzm
  have hne : lg ≠ [] := by rintro rfl; simp at hzg
  have HRR := Lib.hid (Met.isRight HRg.out)
  go_wp2_with fail
  refine (mlength_right HIm.out HRm.out HXX.out).mono ?_
  rintro e w9 ⟨rfl, hb9⟩
  have hs9 := hb9
  replace HIm := Lib.hid (HIm.out.later hs9)
  replace HIg := Lib.hid (HIg.out.later hs9)
  replace HIn := Lib.hid (HIn.out.later hs9)
  replace c_m_0 := cell_later hs9 c_m_0
  replace c_m_1 := cell_later hs9 c_m_1
  replace c_m_2 := cell_later hs9 c_m_2
  replace c_g_0 := cell_later hs9 c_g_0
  replace c_g_1 := cell_later hs9 c_g_1
  replace c_g_2 := cell_later hs9 c_g_2
  replace c_n_0 := cell_later hs9 c_n_0
  replace c_n_1 := cell_later hs9 c_n_1
  replace c_n_2 := cell_later hs9 c_n_2
  clear z_g
  have z_g := World.block_lt_of_cell? _ _ c_g_0
  clear z_m
  have z_m := World.block_lt_of_cell? _ _ c_m_0
  clear z_n
  have z_n := World.block_lt_of_cell? _ _ c_n_0
  have hB9 := below_two hB8 hs9
  clear hB8 hs9
  go_wp2_with fail
  have hs10 : Below w9.heap.size w9 (w9.alloc (.cells #[.int .i64 x0, .int .i64 x1] 26)) := by repeat (first | exact Below.refl _ _ | refine Below.alloc ?_ (by simp <;> omega) _)
  replace HIm := Lib.hid (HIm.out.later hs10)
  replace HIg := Lib.hid (HIg.out.later hs10)
  replace HIn := Lib.hid (HIn.out.later hs10)
  replace c_m_0 := cell_later hs10 c_m_0
  replace c_m_1 := cell_later hs10 c_m_1
  replace c_m_2 := cell_later hs10 c_m_2
  replace c_g_0 := cell_later hs10 c_g_0
  replace c_g_1 := cell_later hs10 c_g_1
  replace c_g_2 := cell_later hs10 c_g_2
  replace c_n_0 := cell_later hs10 c_n_0
  replace c_n_1 := cell_later hs10 c_n_1
  replace c_n_2 := cell_later hs10 c_n_2
  have c_l_0 : (w9.alloc (.cells #[.int .i64 x0, .int .i64 x1] 26)).cell? ⟨w9.heap.size, 0, none⟩ = some (.int .i64 x0) := by go_simp
  have c_l_1 : (w9.alloc (.cells #[.int .i64 x0, .int .i64 x1] 26)).cell? ⟨w9.heap.size, 1, none⟩ = some (.int .i64 x1) := by go_simp
  have hB10 := below_two hB9 hs10
  clear hB9 hs10
  have y10_g := z_g
  have y10_m := z_m
  have y10_n := z_n
  generalize (w9.alloc (.cells #[.int .i64 x0, .int .i64 x1] 26)) = w10 at *
  clear z_g
  have z_g := World.block_lt_of_cell? _ _ c_g_0
  have z_l := World.block_lt_of_cell? _ _ c_l_0
  clear z_m
  have z_m := World.block_lt_of_cell? _ _ c_m_0
  clear z_n
  have z_n := World.block_lt_of_cell? _ _ c_n_0
  go_wp2_with fail
  refine (mlength_right HIg.out HRg.out HXX.out).mono ?_
  rintro e w11 ⟨rfl, hb11⟩
  have hs11 := hb11
  replace HIm := Lib.hid (HIm.out.later hs11)
  replace HIg := Lib.hid (HIg.out.later hs11)
  replace HIn := Lib.hid (HIn.out.later hs11)
  replace c_m_0 := cell_later hs11 c_m_0
  replace c_m_1 := cell_later hs11 c_m_1
  replace c_m_2 := cell_later hs11 c_m_2
  replace c_g_0 := cell_later hs11 c_g_0
  replace c_g_1 := cell_later hs11 c_g_1
  replace c_g_2 := cell_later hs11 c_g_2
  replace c_n_0 := cell_later hs11 c_n_0
  replace c_n_1 := cell_later hs11 c_n_1
  replace c_n_2 := cell_later hs11 c_n_2
  replace c_l_0 := cell_later hs11 c_l_0
  replace c_l_1 := cell_later hs11 c_l_1
  clear z_g
  have z_g := World.block_lt_of_cell? _ _ c_g_0
  clear z_l
  have z_l := World.block_lt_of_cell? _ _ c_l_0
  clear z_m
  have z_m := World.block_lt_of_cell? _ _ c_m_0
  clear z_n
  have z_n := World.block_lt_of_cell? _ _ c_n_0
  have hB11 := below_two hB10 hs11
  clear hB10 hs11
  go_wp2_with fail
  have hs12 : Below w11.heap.size w11 (w11.alloc (.cells #[.int .i64 x0, .int .i64 x1] 26)) := by repeat (first | exact Below.refl _ _ | refine Below.alloc ?_ (by simp <;> omega) _)
  replace HIm := Lib.hid (HIm.out.later hs12)
  replace HIg := Lib.hid (HIg.out.later hs12)
  replace HIn := Lib.hid (HIn.out.later hs12)
  replace c_m_0 := cell_later hs12 c_m_0
  replace c_m_1 := cell_later hs12 c_m_1
  replace c_m_2 := cell_later hs12 c_m_2
  replace c_g_0 := cell_later hs12 c_g_0
  replace c_g_1 := cell_later hs12 c_g_1
  replace c_g_2 := cell_later hs12 c_g_2
  replace c_n_0 := cell_later hs12 c_n_0
  replace c_n_1 := cell_later hs12 c_n_1
  replace c_n_2 := cell_later hs12 c_n_2
  replace c_l_0 := cell_later hs12 c_l_0
  replace c_l_1 := cell_later hs12 c_l_1
  have c_k_0 : (w11.alloc (.cells #[.int .i64 x0, .int .i64 x1] 26)).cell? ⟨w11.heap.size, 0, none⟩ = some (.int .i64 x0) := by go_simp
  have c_k_1 : (w11.alloc (.cells #[.int .i64 x0, .int .i64 x1] 26)).cell? ⟨w11.heap.size, 1, none⟩ = some (.int .i64 x1) := by go_simp
  have hB12 := below_two hB11 hs12
  clear hB11 hs12
  have y12_g := z_g
  have y12_l := z_l
  have y12_m := z_m
  have y12_n := z_n
  generalize (w11.alloc (.cells #[.int .i64 x0, .int .i64 x1] 26)) = w12 at *
  clear z_g
  have z_g := World.block_lt_of_cell? _ _ c_g_0
  have z_k := World.block_lt_of_cell? _ _ c_k_0
  clear z_l
  have z_l := World.block_lt_of_cell? _ _ c_l_0
  clear z_m
  have z_m := World.block_lt_of_cell? _ _ c_m_0
  clear z_n
  have z_n := World.block_lt_of_cell? _ _ c_n_0
  obtain ⟨t, HT1⟩ : ∃ t, Hid (decide (N = N' ∧ D = D' ∧ lg = ln) = t) := ⟨_, Lib.hid rfl⟩
  have HT2 : Hid (decide (N' = N ∧ D' = D ∧ ln = lg) = t) := Lib.hid (by rw [← HT1.out]; exact decide_eq_decide.2 ⟨fun h => ⟨h.1.symm, h.2.1.symm, h.2.2.symm⟩, fun h => ⟨h.1.symm, h.2.1.symm, h.2.2.symm⟩⟩)
  have htt : (t != t) = false := by simp
  have HNE := Lib.hid hne
  clear hne
  go_wp2_with fail
  have QB : Hid (∀ dd os, Below w.heap.size w (Go.Sort.grow (redrawn w12 dd) os)) := Lib.hid (fun dd os => below_two hB12 (below_regrown w12 dd os))
  have g_c_m_0 := fun dd os => cell_regrown c_m_0 dd os
  have g_c_m_1 := fun dd os => cell_regrown c_m_1 dd os
  have g_c_m_2 := fun dd os => cell_regrown c_m_2 dd os
  have g_c_g_0 := fun dd os => cell_regrown c_g_0 dd os
  have g_c_g_1 := fun dd os => cell_regrown c_g_1 dd os
  have g_c_g_2 := fun dd os => cell_regrown c_g_2 dd os
  have g_c_n_0 := fun dd os => cell_regrown c_n_0 dd os
  have g_c_n_1 := fun dd os => cell_regrown c_n_1 dd os
  have g_c_n_2 := fun dd os => cell_regrown c_n_2 dd os
  have g_c_l_0 := fun dd os => cell_regrown c_l_0 dd os
  have g_c_l_1 := fun dd os => cell_regrown c_l_1 dd os
  have g_c_k_0 := fun dd os => cell_regrown c_k_0 dd os
  have g_c_k_1 := fun dd os => cell_regrown c_k_1 dd os
  have q0 : Hid (∀ dd os, Calls Try.prog 18 #[mt N D (.slice pm 0 cm), mt N D (.slice pm 0 cm)] (Go.Sort.grow (redrawn w12 dd) os) fun e w'' => e = .returned (.bool true) ∧ ∃ p : Regrown, w'' = Go.Sort.grow (redrawn w12 p.d) p.os) := Lib.hid (fun dd os => Calls.regrown_of (same_is (HIm.out.later (below_regrown w12 dd os)) (HIm.out.later (below_regrown w12 dd os)) (t := true) (by simp)))
  have q1 : Hid (∀ dd os, Calls Try.prog 18 #[mt N D (.slice pg lg.length cg), mt N D (.slice pg lg.length cg)] (Go.Sort.grow (redrawn w12 dd) os) fun e w'' => e = .returned (.bool true) ∧ ∃ p : Regrown, w'' = Go.Sort.grow (redrawn w12 p.d) p.os) := Lib.hid (fun dd os => Calls.regrown_of (same_is (HIg.out.later (below_regrown w12 dd os)) (HIg.out.later (below_regrown w12 dd os)) (t := true) (by simp)))
  have q2 : Hid (∀ dd os, Calls Try.prog 18 #[mt N D (.slice pm 0 cm), mt N D (.slice pg lg.length cg)] (Go.Sort.grow (redrawn w12 dd) os) fun e w'' => e = .returned (.bool false) ∧ ∃ p : Regrown, w'' = Go.Sort.grow (redrawn w12 p.d) p.os) := Lib.hid (fun dd os => Calls.regrown_of (same_is (HIm.out.later (below_regrown w12 dd os)) (HIg.out.later (below_regrown w12 dd os)) (t := false) (decide_eq_false fun h => HNE.out h.2.2.symm)))
  have q3 : Hid (∀ dd os, Calls Try.prog 18 #[mt N D (.slice pg lg.length cg), mt N' D' (.slice pn ln.length cn)] (Go.Sort.grow (redrawn w12 dd) os) fun e w'' => e = .returned (.bool t) ∧ ∃ p : Regrown, w'' = Go.Sort.grow (redrawn w12 p.d) p.os) := Lib.hid (fun dd os => Calls.regrown_of (same_is (HIg.out.later (below_regrown w12 dd os)) (HIn.out.later (below_regrown w12 dd os)) HT1.out))
  have q4 : Hid (∀ dd os, Calls Try.prog 18 #[mt N' D' (.slice pn ln.length cn), mt N D (.slice pg lg.length cg)] (Go.Sort.grow (redrawn w12 dd) os) fun e w'' => e = .returned (.bool t) ∧ ∃ p : Regrown, w'' = Go.Sort.grow (redrawn w12 p.d) p.os) := Lib.hid (fun dd os => Calls.regrown_of (same_is (HIn.out.later (below_regrown w12 dd os)) (HIg.out.later (below_regrown w12 dd os)) HT2.out))
  refine wp_region_quiet_below (by kernel_rfl) (by kernel_rfl) ?_
  repeat (go_big_quiet_step (first | (go_at_call 18; with_reducible exact q0.out _ _) | (go_at_call 18; with_reducible exact q1.out _ _) | (go_at_call 18; with_reducible exact q2.out _ _) | (go_at_call 18; with_reducible exact q3.out _ _) | (go_at_call 18; with_reducible exact q4.out _ _)))
  refine wpQuiet_nil ?_
  intro _ hw'
  obtain ⟨⟨dq, osq⟩, hw''⟩ := hw'
  subst hw''
  replace HIm := Lib.hid (HIm.out.later (below_regrown w12 dq osq))
  replace HIg := Lib.hid (HIg.out.later (below_regrown w12 dq osq))
  replace HIn := Lib.hid (HIn.out.later (below_regrown w12 dq osq))
  replace c_m_0 := g_c_m_0 dq osq
  clear g_c_m_0
  replace c_m_1 := g_c_m_1 dq osq
  clear g_c_m_1
  replace c_m_2 := g_c_m_2 dq osq
  clear g_c_m_2
  replace c_g_0 := g_c_g_0 dq osq
  clear g_c_g_0
  replace c_g_1 := g_c_g_1 dq osq
  clear g_c_g_1
  replace c_g_2 := g_c_g_2 dq osq
  clear g_c_g_2
  replace c_n_0 := g_c_n_0 dq osq
  clear g_c_n_0
  replace c_n_1 := g_c_n_1 dq osq
  clear g_c_n_1
  replace c_n_2 := g_c_n_2 dq osq
  clear g_c_n_2
  replace c_l_0 := g_c_l_0 dq osq
  clear g_c_l_0
  replace c_l_1 := g_c_l_1 dq osq
  clear g_c_l_1
  replace c_k_0 := g_c_k_0 dq osq
  clear g_c_k_0
  replace c_k_1 := g_c_k_1 dq osq
  clear g_c_k_1
  clear q0
  clear q1
  clear q2
  clear q3
  clear q4
  have hB13 := QB.out dq osq
  clear QB hB12 z_g z_k z_l z_m z_n
  generalize Go.Sort.grow (redrawn w12 dq) osq = w13 at *
  have z_g := World.block_lt_of_cell? _ _ c_g_0
  have z_k := World.block_lt_of_cell? _ _ c_k_0
  have z_l := World.block_lt_of_cell? _ _ c_l_0
  have z_m := World.block_lt_of_cell? _ _ c_m_0
  have z_n := World.block_lt_of_cell? _ _ c_n_0
  obtain ⟨zg, hzg2⟩ : ∃ z, lg[0]? = some z := by
    cases lg with
    | nil => exact absurd rfl HNE.out
    | cons z _ => exact ⟨z, rfl⟩
  have hposg : 0 < lg.length := by cases lg with
    | nil => exact absurd rfl HNE.out
    | cons z _ => simp
  obtain ⟨bg, og, rfl⟩ : ∃ b o, pg = some ⟨b, o, none⟩ := by
    obtain ⟨p', c', e', _, hc'⟩ := HIg.out
    cases e'
    obtain ⟨b, o, e2, _⟩ := hc' 0 zg hzg2
    exact ⟨b, o, e2⟩
  have hlg32 : lg.length ≤ 32 := by
    have h1 := HRR.out.len
    have h2 : Met.grp N D lg = lg := by unfold Met.grp; rw [if_neg (by omega)]
    rw [h2] at h1; exact h1.2
  clear hzg2 hlg hlm hln
  have M1 : Hid True := Lib.hid trivial
  have HNEWS : Hid (∀ (j : Nat) (u : Value), (lg.map (fun z => Value.int .i64 z))[j]? = some u → (w13.alloc (.cells #[.int .i64 N, .int .i64 D, .slice (some ⟨bg, og, none⟩) lg.length cg] 24)).cell? (Addr.add ⟨bg, og, none⟩ j) = some u) := Lib.hid (fun j u hj => alloc_cell (news_of HIg.out j u hj))
  go_upto_region 11 with (first
    | (at_builtin; have m1 := M1; clear M1 m1; refine wpList_append_lies _ rfl _ _ 22 rfl (w13.heap.size + 1) 3 i0 (.int .i64 0) 1 8 Try.underlying22 hi0 hz0 hz1 hz2 rfl (by decide) (.slice none 0 0) 0 [] rfl (World.ownsRow_nil _ _ _ _) ⟨bg, og, none⟩ lg.length cg (lg.map (fun z => Value.int .i64 z)) rfl (by simp) HNEWS.out (one_cells _) hposg (by unfold maxLen; omega) (by omega) (by simp) _ rfl ?_; intro g1odd k1odd v5odd hown5 hgrow5 hat5 hlt5; simp only [Nat.zero_add, List.nil_append] at hown5 ⊢; have HOWN5 := Lib.hid hown5; have HG5 := Lib.hid hgrow5; clear hown5 hgrow5 hat5 hlt5)
    | (at_builtin; have m2 := HOWN5; clear m2; go_must (refine wpList_append_lies _ rfl _ _ 22 rfl (w13.heap.size + 1) 3 i0 (.int .i64 0) 1 8 Try.underlying22 hi0 hz0 hz1 hz2 rfl (by decide) (.slice (some ⟨g1odd, 0, none⟩) lg.length k1odd) lg.length (lg.map (fun z => Value.int .i64 z)) rfl (HOWN5.out.alloc _) ⟨v5odd.heap.size, 0, none⟩ 1 1 [.int .i64 1] rfl (by simp) (cell_one _ _ _ rfl) (one_cells [_]) (by decide) (by unfold maxLen; omega) (by omega) (by have := HG5.out.size; simp at this ⊢; omega) _ rfl ?_); intro g2odd k2odd v6odd hown6 hgrow6 hat6 hlt6; go_must (have hcop := copied_below HG5.out (by simpa using HOWN5.out) hgrow6); have hq2 : v6odd.cell? ⟨w13.heap.size, 2, none⟩ = some (.slice (some ⟨bg, og, none⟩) lg.length cg) := (hcop.cell (by simp)).trans (by go_simp); have hf2 : v6odd.frozen? ⟨w13.heap.size, 2, none⟩ = false := (hcop.frozen (by simp)).trans (by go_simp); have HCOP := Lib.hid hcop; have HOWN6 := Lib.hid hown6; clear hcop hown6 hgrow6 hat6 hlt6)
    | fail)
  have e0 : v6odd.cell? ⟨w13.heap.size, 0, none⟩ = some (.int .i64 N) := (HCOP.out.cell (by simp)).trans (by go_simp)
  have e1 : v6odd.cell? ⟨w13.heap.size, 1, none⟩ = some (.int .i64 D) := (HCOP.out.cell (by simp)).trans (by go_simp)
  have HSX : Hid (Below w13.heap.size w13 v6odd) := Lib.hid (((Below.refl _ _).alloc (Nat.le_refl _) _).trans (HCOP.out.mono (by simp)))
  have hs14 : Below w13.heap.size w13 (v6odd.setCell ⟨w13.heap.size, 2, none⟩ (.slice (some ⟨g2odd, 0, none⟩) (lg.length + 1) k2odd)) := set1_below HSX.out (Nat.le_refl _)
  replace HIm := Lib.hid (HIm.out.later hs14)
  replace HIg := Lib.hid (HIg.out.later hs14)
  replace HIn := Lib.hid (HIn.out.later hs14)
  replace c_m_0 := cell_later hs14 c_m_0
  replace c_m_1 := cell_later hs14 c_m_1
  replace c_m_2 := cell_later hs14 c_m_2
  replace c_g_0 := cell_later hs14 c_g_0
  replace c_g_1 := cell_later hs14 c_g_1
  replace c_g_2 := cell_later hs14 c_g_2
  replace c_n_0 := cell_later hs14 c_n_0
  replace c_n_1 := cell_later hs14 c_n_1
  replace c_n_2 := cell_later hs14 c_n_2
  replace c_l_0 := cell_later hs14 c_l_0
  replace c_l_1 := cell_later hs14 c_l_1
  replace c_k_0 := cell_later hs14 c_k_0
  replace c_k_1 := cell_later hs14 c_k_1
  have c_odd_0 : (v6odd.setCell ⟨w13.heap.size, 2, none⟩ (.slice (some ⟨g2odd, 0, none⟩) (lg.length + 1) k2odd)).cell? ⟨w13.heap.size, 0, none⟩ = some (.int .i64 N) := set_beside (by decide) e0
  have c_odd_1 : (v6odd.setCell ⟨w13.heap.size, 2, none⟩ (.slice (some ⟨g2odd, 0, none⟩) (lg.length + 1) k2odd)).cell? ⟨w13.heap.size, 1, none⟩ = some (.int .i64 D) := set_beside (by decide) e1
  have c_odd_2 : (v6odd.setCell ⟨w13.heap.size, 2, none⟩ (.slice (some ⟨g2odd, 0, none⟩) (lg.length + 1) k2odd)).cell? ⟨w13.heap.size, 2, none⟩ = some (.slice (some ⟨g2odd, 0, none⟩) (lg.length + 1) k2odd) := set_same (held_of hq2)
  have HIodd : Hid (Ints (v6odd.setCell ⟨w13.heap.size, 2, none⟩ (.slice (some ⟨g2odd, 0, none⟩) (lg.length + 1) k2odd)) (.slice (some ⟨g2odd, 0, none⟩) (lg.length + 1) k2odd) (lg ++ [1])) := Lib.hid (ints_row (by simp; omega) (own_set HOWN6.out (by omega)))
  have hB14 := below_two hB13 hs14
  clear hB13 hs14
  have y14_g := z_g
  have y14_k := z_k
  have y14_l := z_l
  have y14_m := z_m
  have y14_n := z_n
  generalize (v6odd.setCell ⟨w13.heap.size, 2, none⟩ (.slice (some ⟨g2odd, 0, none⟩) (lg.length + 1) k2odd)) = w14 at *
  clear z_g
  have z_g := World.block_lt_of_cell? _ _ c_g_0
  clear z_k
  have z_k := World.block_lt_of_cell? _ _ c_k_0
  clear z_l
  have z_l := World.block_lt_of_cell? _ _ c_l_0
  clear z_m
  have z_m := World.block_lt_of_cell? _ _ c_m_0
  clear z_n
  have z_n := World.block_lt_of_cell? _ _ c_n_0
  have z_odd := World.block_lt_of_cell? _ _ c_odd_0
  clear e0 e1 HSX hq2 hf2 HCOP HOWN6 HOWN5 HG5 HNEWS
  have M1 : Hid True := Lib.hid trivial
  have HNEWS : Hid (∀ (j : Nat) (u : Value), (lg.map (fun z => Value.int .i64 z))[j]? = some u → (w14.alloc (.cells #[.int .i64 N, .int .i64 D, .slice (some ⟨bg, og, none⟩) lg.length cg] 24)).cell? (Addr.add ⟨bg, og, none⟩ j) = some u) := Lib.hid (fun j u hj => alloc_cell (news_of HIg.out j u hj))
  go_upto_region 13 with (first
    | (at_builtin; have m1 := M1; clear M1 m1; refine wpList_append_lies _ rfl _ _ 22 rfl (w14.heap.size + 1) 3 i0 (.int .i64 0) 1 8 Try.underlying22 hi0 hz0 hz1 hz2 rfl (by decide) (.slice none 0 0) 0 [] rfl (World.ownsRow_nil _ _ _ _) ⟨bg, og, none⟩ lg.length cg (lg.map (fun z => Value.int .i64 z)) rfl (by simp) HNEWS.out (one_cells _) hposg (by unfold maxLen; omega) (by omega) (by simp) _ rfl ?_; intro g1zero k1zero v5zero hown5 hgrow5 hat5 hlt5; simp only [Nat.zero_add, List.nil_append] at hown5 ⊢; have HOWN5 := Lib.hid hown5; have HG5 := Lib.hid hgrow5; clear hown5 hgrow5 hat5 hlt5)
    | (at_builtin; have m2 := HOWN5; clear m2; go_must (refine wpList_append_lies _ rfl _ _ 22 rfl (w14.heap.size + 1) 3 i0 (.int .i64 0) 1 8 Try.underlying22 hi0 hz0 hz1 hz2 rfl (by decide) (.slice (some ⟨g1zero, 0, none⟩) lg.length k1zero) lg.length (lg.map (fun z => Value.int .i64 z)) rfl (HOWN5.out.alloc _) ⟨v5zero.heap.size, 0, none⟩ 1 1 [.int .i64 0] rfl (by simp) (cell_one _ _ _ rfl) (one_cells [_]) (by decide) (by unfold maxLen; omega) (by omega) (by have := HG5.out.size; simp at this ⊢; omega) _ rfl ?_); intro g2zero k2zero v6zero hown6 hgrow6 hat6 hlt6; go_must (have hcop := copied_below HG5.out (by simpa using HOWN5.out) hgrow6); have hq2 : v6zero.cell? ⟨w14.heap.size, 2, none⟩ = some (.slice (some ⟨bg, og, none⟩) lg.length cg) := (hcop.cell (by simp)).trans (by go_simp); have hf2 : v6zero.frozen? ⟨w14.heap.size, 2, none⟩ = false := (hcop.frozen (by simp)).trans (by go_simp); have HCOP := Lib.hid hcop; have HOWN6 := Lib.hid hown6; clear hcop hown6 hgrow6 hat6 hlt6)
    | fail)
  have e0 : v6zero.cell? ⟨w14.heap.size, 0, none⟩ = some (.int .i64 N) := (HCOP.out.cell (by simp)).trans (by go_simp)
  have e1 : v6zero.cell? ⟨w14.heap.size, 1, none⟩ = some (.int .i64 D) := (HCOP.out.cell (by simp)).trans (by go_simp)
  have HSX : Hid (Below w14.heap.size w14 v6zero) := Lib.hid (((Below.refl _ _).alloc (Nat.le_refl _) _).trans (HCOP.out.mono (by simp)))
  have hs15 : Below w14.heap.size w14 (v6zero.setCell ⟨w14.heap.size, 2, none⟩ (.slice (some ⟨g2zero, 0, none⟩) (lg.length + 1) k2zero)) := set1_below HSX.out (Nat.le_refl _)
  replace HIm := Lib.hid (HIm.out.later hs15)
  replace HIg := Lib.hid (HIg.out.later hs15)
  replace HIn := Lib.hid (HIn.out.later hs15)
  replace HIodd := Lib.hid (HIodd.out.later hs15)
  replace c_m_0 := cell_later hs15 c_m_0
  replace c_m_1 := cell_later hs15 c_m_1
  replace c_m_2 := cell_later hs15 c_m_2
  replace c_g_0 := cell_later hs15 c_g_0
  replace c_g_1 := cell_later hs15 c_g_1
  replace c_g_2 := cell_later hs15 c_g_2
  replace c_n_0 := cell_later hs15 c_n_0
  replace c_n_1 := cell_later hs15 c_n_1
  replace c_n_2 := cell_later hs15 c_n_2
  replace c_l_0 := cell_later hs15 c_l_0
  replace c_l_1 := cell_later hs15 c_l_1
  replace c_k_0 := cell_later hs15 c_k_0
  replace c_k_1 := cell_later hs15 c_k_1
  replace c_odd_0 := cell_later hs15 c_odd_0
  replace c_odd_1 := cell_later hs15 c_odd_1
  replace c_odd_2 := cell_later hs15 c_odd_2
  have c_zero_0 : (v6zero.setCell ⟨w14.heap.size, 2, none⟩ (.slice (some ⟨g2zero, 0, none⟩) (lg.length + 1) k2zero)).cell? ⟨w14.heap.size, 0, none⟩ = some (.int .i64 N) := set_beside (by decide) e0
  have c_zero_1 : (v6zero.setCell ⟨w14.heap.size, 2, none⟩ (.slice (some ⟨g2zero, 0, none⟩) (lg.length + 1) k2zero)).cell? ⟨w14.heap.size, 1, none⟩ = some (.int .i64 D) := set_beside (by decide) e1
  have c_zero_2 : (v6zero.setCell ⟨w14.heap.size, 2, none⟩ (.slice (some ⟨g2zero, 0, none⟩) (lg.length + 1) k2zero)).cell? ⟨w14.heap.size, 2, none⟩ = some (.slice (some ⟨g2zero, 0, none⟩) (lg.length + 1) k2zero) := set_same (held_of hq2)
  have HIzero : Hid (Ints (v6zero.setCell ⟨w14.heap.size, 2, none⟩ (.slice (some ⟨g2zero, 0, none⟩) (lg.length + 1) k2zero)) (.slice (some ⟨g2zero, 0, none⟩) (lg.length + 1) k2zero) (lg ++ [0])) := Lib.hid (ints_row (by simp; omega) (own_set HOWN6.out (by omega)))
  have hB15 := below_two hB14 hs15
  clear hB14 hs15
  have y15_g := z_g
  have y15_k := z_k
  have y15_l := z_l
  have y15_m := z_m
  have y15_n := z_n
  have y15_odd := z_odd
  generalize (v6zero.setCell ⟨w14.heap.size, 2, none⟩ (.slice (some ⟨g2zero, 0, none⟩) (lg.length + 1) k2zero)) = w15 at *
  clear z_g
  have z_g := World.block_lt_of_cell? _ _ c_g_0
  clear z_k
  have z_k := World.block_lt_of_cell? _ _ c_k_0
  clear z_l
  have z_l := World.block_lt_of_cell? _ _ c_l_0
  clear z_m
  have z_m := World.block_lt_of_cell? _ _ c_m_0
  clear z_n
  have z_n := World.block_lt_of_cell? _ _ c_n_0
  clear z_odd
  have z_odd := World.block_lt_of_cell? _ _ c_odd_0
  have z_zero := World.block_lt_of_cell? _ _ c_zero_0
  clear e0 e1 HSX hq2 hf2 HCOP HOWN6 HOWN5 HG5 HNEWS
  have HODD : Hid (Met.right N D (lg ++ [1]) = false) := Lib.hid (by
    have h1 := HRR.out
    have h2 : Met.grp N D lg = lg := by unfold Met.grp; rw [if_neg (by omega)]
    have ha := h1.all
    rw [h2] at ha
    unfold Met.right
    have : Met.okG N (lg ++ [1]) = false := by
      rw [← Bool.not_eq_true, Met.okG_iff (by simp)]
      rintro ⟨_, h⟩
      rw [Met.tot_append] at h
      simp [Met.tot] at h
      omega
    rw [this, Bool.and_false])
  have HZER : Hid (Met.right N D (lg ++ [0]) = false) := Lib.hid (by
    unfold Met.right
    have : Met.okG N (lg ++ [0]) = false := by
      rw [← Bool.not_eq_true, Met.okG_iff (by simp)]
      rintro ⟨h, _⟩
      have := h 0 (by simp)
      omega
    rw [this, Bool.and_false])
  go_wp2_with fail
  refine (mlength_0 N D _ (lg ++ [1]) _ HIodd.out HODD.out).mono ?_
  rintro e w16 ⟨rfl, hb16⟩
  have hs16 := hb16
  replace HIm := Lib.hid (HIm.out.later hs16)
  replace HIg := Lib.hid (HIg.out.later hs16)
  replace HIn := Lib.hid (HIn.out.later hs16)
  replace HIodd := Lib.hid (HIodd.out.later hs16)
  replace HIzero := Lib.hid (HIzero.out.later hs16)
  replace c_m_0 := cell_later hs16 c_m_0
  replace c_m_1 := cell_later hs16 c_m_1
  replace c_m_2 := cell_later hs16 c_m_2
  replace c_g_0 := cell_later hs16 c_g_0
  replace c_g_1 := cell_later hs16 c_g_1
  replace c_g_2 := cell_later hs16 c_g_2
  replace c_n_0 := cell_later hs16 c_n_0
  replace c_n_1 := cell_later hs16 c_n_1
  replace c_n_2 := cell_later hs16 c_n_2
  replace c_l_0 := cell_later hs16 c_l_0
  replace c_l_1 := cell_later hs16 c_l_1
  replace c_k_0 := cell_later hs16 c_k_0
  replace c_k_1 := cell_later hs16 c_k_1
  replace c_odd_0 := cell_later hs16 c_odd_0
  replace c_odd_1 := cell_later hs16 c_odd_1
  replace c_odd_2 := cell_later hs16 c_odd_2
  replace c_zero_0 := cell_later hs16 c_zero_0
  replace c_zero_1 := cell_later hs16 c_zero_1
  replace c_zero_2 := cell_later hs16 c_zero_2
  clear z_g
  have z_g := World.block_lt_of_cell? _ _ c_g_0
  clear z_k
  have z_k := World.block_lt_of_cell? _ _ c_k_0
  clear z_l
  have z_l := World.block_lt_of_cell? _ _ c_l_0
  clear z_m
  have z_m := World.block_lt_of_cell? _ _ c_m_0
  clear z_n
  have z_n := World.block_lt_of_cell? _ _ c_n_0
  clear z_odd
  have z_odd := World.block_lt_of_cell? _ _ c_odd_0
  clear z_zero
  have z_zero := World.block_lt_of_cell? _ _ c_zero_0
  have hB16 := below_two hB15 hs16
  clear hB15 hs16
  go_wp2_with fail
  have hs17 : Below w16.heap.size w16 (w16.alloc (.cells #[.int .i64 0, .int .i64 0] 26)) := by repeat (first | exact Below.refl _ _ | refine Below.alloc ?_ (by simp <;> omega) _)
  replace HIm := Lib.hid (HIm.out.later hs17)
  replace HIg := Lib.hid (HIg.out.later hs17)
  replace HIn := Lib.hid (HIn.out.later hs17)
  replace HIodd := Lib.hid (HIodd.out.later hs17)
  replace HIzero := Lib.hid (HIzero.out.later hs17)
  replace c_m_0 := cell_later hs17 c_m_0
  replace c_m_1 := cell_later hs17 c_m_1
  replace c_m_2 := cell_later hs17 c_m_2
  replace c_g_0 := cell_later hs17 c_g_0
  replace c_g_1 := cell_later hs17 c_g_1
  replace c_g_2 := cell_later hs17 c_g_2
  replace c_n_0 := cell_later hs17 c_n_0
  replace c_n_1 := cell_later hs17 c_n_1
  replace c_n_2 := cell_later hs17 c_n_2
  replace c_l_0 := cell_later hs17 c_l_0
  replace c_l_1 := cell_later hs17 c_l_1
  replace c_k_0 := cell_later hs17 c_k_0
  replace c_k_1 := cell_later hs17 c_k_1
  replace c_odd_0 := cell_later hs17 c_odd_0
  replace c_odd_1 := cell_later hs17 c_odd_1
  replace c_odd_2 := cell_later hs17 c_odd_2
  replace c_zero_0 := cell_later hs17 c_zero_0
  replace c_zero_1 := cell_later hs17 c_zero_1
  replace c_zero_2 := cell_later hs17 c_zero_2
  have c_q_0 : (w16.alloc (.cells #[.int .i64 0, .int .i64 0] 26)).cell? ⟨w16.heap.size, 0, none⟩ = some (.int .i64 0) := by go_simp
  have c_q_1 : (w16.alloc (.cells #[.int .i64 0, .int .i64 0] 26)).cell? ⟨w16.heap.size, 1, none⟩ = some (.int .i64 0) := by go_simp
  have hB17 := below_two hB16 hs17
  clear hB16 hs17
  have y17_g := z_g
  have y17_k := z_k
  have y17_l := z_l
  have y17_m := z_m
  have y17_n := z_n
  have y17_odd := z_odd
  have y17_zero := z_zero
  generalize (w16.alloc (.cells #[.int .i64 0, .int .i64 0] 26)) = w17 at *
  clear z_g
  have z_g := World.block_lt_of_cell? _ _ c_g_0
  clear z_k
  have z_k := World.block_lt_of_cell? _ _ c_k_0
  clear z_l
  have z_l := World.block_lt_of_cell? _ _ c_l_0
  clear z_m
  have z_m := World.block_lt_of_cell? _ _ c_m_0
  clear z_n
  have z_n := World.block_lt_of_cell? _ _ c_n_0
  clear z_odd
  have z_odd := World.block_lt_of_cell? _ _ c_odd_0
  have z_q := World.block_lt_of_cell? _ _ c_q_0
  clear z_zero
  have z_zero := World.block_lt_of_cell? _ _ c_zero_0
  go_wp2_with fail
  refine (mright_is HIm.out HRm.out).mono ?_
  rintro e w18 ⟨rfl, hb18⟩
  have hs18 := hb18
  replace HIm := Lib.hid (HIm.out.later hs18)
  replace HIg := Lib.hid (HIg.out.later hs18)
  replace HIn := Lib.hid (HIn.out.later hs18)
  replace HIodd := Lib.hid (HIodd.out.later hs18)
  replace HIzero := Lib.hid (HIzero.out.later hs18)
  replace c_m_0 := cell_later hs18 c_m_0
  replace c_m_1 := cell_later hs18 c_m_1
  replace c_m_2 := cell_later hs18 c_m_2
  replace c_g_0 := cell_later hs18 c_g_0
  replace c_g_1 := cell_later hs18 c_g_1
  replace c_g_2 := cell_later hs18 c_g_2
  replace c_n_0 := cell_later hs18 c_n_0
  replace c_n_1 := cell_later hs18 c_n_1
  replace c_n_2 := cell_later hs18 c_n_2
  replace c_l_0 := cell_later hs18 c_l_0
  replace c_l_1 := cell_later hs18 c_l_1
  replace c_k_0 := cell_later hs18 c_k_0
  replace c_k_1 := cell_later hs18 c_k_1
  replace c_odd_0 := cell_later hs18 c_odd_0
  replace c_odd_1 := cell_later hs18 c_odd_1
  replace c_odd_2 := cell_later hs18 c_odd_2
  replace c_zero_0 := cell_later hs18 c_zero_0
  replace c_zero_1 := cell_later hs18 c_zero_1
  replace c_zero_2 := cell_later hs18 c_zero_2
  replace c_q_0 := cell_later hs18 c_q_0
  replace c_q_1 := cell_later hs18 c_q_1
  clear z_g
  have z_g := World.block_lt_of_cell? _ _ c_g_0
  clear z_k
  have z_k := World.block_lt_of_cell? _ _ c_k_0
  clear z_l
  have z_l := World.block_lt_of_cell? _ _ c_l_0
  clear z_m
  have z_m := World.block_lt_of_cell? _ _ c_m_0
  clear z_n
  have z_n := World.block_lt_of_cell? _ _ c_n_0
  clear z_odd
  have z_odd := World.block_lt_of_cell? _ _ c_odd_0
  clear z_q
  have z_q := World.block_lt_of_cell? _ _ c_q_0
  clear z_zero
  have z_zero := World.block_lt_of_cell? _ _ c_zero_0
  have hB18 := below_two hB17 hs18
  clear hB17 hs18
  go_wp2_with fail
  refine (mright_is HIg.out HRg.out).mono ?_
  rintro e w19 ⟨rfl, hb19⟩
  have hs19 := hb19
  replace HIm := Lib.hid (HIm.out.later hs19)
  replace HIg := Lib.hid (HIg.out.later hs19)
  replace HIn := Lib.hid (HIn.out.later hs19)
  replace HIodd := Lib.hid (HIodd.out.later hs19)
  replace HIzero := Lib.hid (HIzero.out.later hs19)
  replace c_m_0 := cell_later hs19 c_m_0
  replace c_m_1 := cell_later hs19 c_m_1
  replace c_m_2 := cell_later hs19 c_m_2
  replace c_g_0 := cell_later hs19 c_g_0
  replace c_g_1 := cell_later hs19 c_g_1
  replace c_g_2 := cell_later hs19 c_g_2
  replace c_n_0 := cell_later hs19 c_n_0
  replace c_n_1 := cell_later hs19 c_n_1
  replace c_n_2 := cell_later hs19 c_n_2
  replace c_l_0 := cell_later hs19 c_l_0
  replace c_l_1 := cell_later hs19 c_l_1
  replace c_k_0 := cell_later hs19 c_k_0
  replace c_k_1 := cell_later hs19 c_k_1
  replace c_odd_0 := cell_later hs19 c_odd_0
  replace c_odd_1 := cell_later hs19 c_odd_1
  replace c_odd_2 := cell_later hs19 c_odd_2
  replace c_zero_0 := cell_later hs19 c_zero_0
  replace c_zero_1 := cell_later hs19 c_zero_1
  replace c_zero_2 := cell_later hs19 c_zero_2
  replace c_q_0 := cell_later hs19 c_q_0
  replace c_q_1 := cell_later hs19 c_q_1
  clear z_g
  have z_g := World.block_lt_of_cell? _ _ c_g_0
  clear z_k
  have z_k := World.block_lt_of_cell? _ _ c_k_0
  clear z_l
  have z_l := World.block_lt_of_cell? _ _ c_l_0
  clear z_m
  have z_m := World.block_lt_of_cell? _ _ c_m_0
  clear z_n
  have z_n := World.block_lt_of_cell? _ _ c_n_0
  clear z_odd
  have z_odd := World.block_lt_of_cell? _ _ c_odd_0
  clear z_q
  have z_q := World.block_lt_of_cell? _ _ c_q_0
  clear z_zero
  have z_zero := World.block_lt_of_cell? _ _ c_zero_0
  have hB19 := below_two hB18 hs19
  clear hB18 hs19
  go_wp2_with fail
  refine (mright_is HIodd.out HODD.out).mono ?_
  rintro e w20 ⟨rfl, hb20⟩
  have hs20 := hb20
  replace HIm := Lib.hid (HIm.out.later hs20)
  replace HIg := Lib.hid (HIg.out.later hs20)
  replace HIn := Lib.hid (HIn.out.later hs20)
  replace HIodd := Lib.hid (HIodd.out.later hs20)
  replace HIzero := Lib.hid (HIzero.out.later hs20)
  replace c_m_0 := cell_later hs20 c_m_0
  replace c_m_1 := cell_later hs20 c_m_1
  replace c_m_2 := cell_later hs20 c_m_2
  replace c_g_0 := cell_later hs20 c_g_0
  replace c_g_1 := cell_later hs20 c_g_1
  replace c_g_2 := cell_later hs20 c_g_2
  replace c_n_0 := cell_later hs20 c_n_0
  replace c_n_1 := cell_later hs20 c_n_1
  replace c_n_2 := cell_later hs20 c_n_2
  replace c_l_0 := cell_later hs20 c_l_0
  replace c_l_1 := cell_later hs20 c_l_1
  replace c_k_0 := cell_later hs20 c_k_0
  replace c_k_1 := cell_later hs20 c_k_1
  replace c_odd_0 := cell_later hs20 c_odd_0
  replace c_odd_1 := cell_later hs20 c_odd_1
  replace c_odd_2 := cell_later hs20 c_odd_2
  replace c_zero_0 := cell_later hs20 c_zero_0
  replace c_zero_1 := cell_later hs20 c_zero_1
  replace c_zero_2 := cell_later hs20 c_zero_2
  replace c_q_0 := cell_later hs20 c_q_0
  replace c_q_1 := cell_later hs20 c_q_1
  clear z_g
  have z_g := World.block_lt_of_cell? _ _ c_g_0
  clear z_k
  have z_k := World.block_lt_of_cell? _ _ c_k_0
  clear z_l
  have z_l := World.block_lt_of_cell? _ _ c_l_0
  clear z_m
  have z_m := World.block_lt_of_cell? _ _ c_m_0
  clear z_n
  have z_n := World.block_lt_of_cell? _ _ c_n_0
  clear z_odd
  have z_odd := World.block_lt_of_cell? _ _ c_odd_0
  clear z_q
  have z_q := World.block_lt_of_cell? _ _ c_q_0
  clear z_zero
  have z_zero := World.block_lt_of_cell? _ _ c_zero_0
  have hB20 := below_two hB19 hs20
  clear hB19 hs20
  go_wp2_with fail
  refine (mright_is HIzero.out HZER.out).mono ?_
  rintro e w21 ⟨rfl, hb21⟩
  have hs21 := hb21
  replace HIm := Lib.hid (HIm.out.later hs21)
  replace HIg := Lib.hid (HIg.out.later hs21)
  replace HIn := Lib.hid (HIn.out.later hs21)
  replace HIodd := Lib.hid (HIodd.out.later hs21)
  replace HIzero := Lib.hid (HIzero.out.later hs21)
  replace c_m_0 := cell_later hs21 c_m_0
  replace c_m_1 := cell_later hs21 c_m_1
  replace c_m_2 := cell_later hs21 c_m_2
  replace c_g_0 := cell_later hs21 c_g_0
  replace c_g_1 := cell_later hs21 c_g_1
  replace c_g_2 := cell_later hs21 c_g_2
  replace c_n_0 := cell_later hs21 c_n_0
  replace c_n_1 := cell_later hs21 c_n_1
  replace c_n_2 := cell_later hs21 c_n_2
  replace c_l_0 := cell_later hs21 c_l_0
  replace c_l_1 := cell_later hs21 c_l_1
  replace c_k_0 := cell_later hs21 c_k_0
  replace c_k_1 := cell_later hs21 c_k_1
  replace c_odd_0 := cell_later hs21 c_odd_0
  replace c_odd_1 := cell_later hs21 c_odd_1
  replace c_odd_2 := cell_later hs21 c_odd_2
  replace c_zero_0 := cell_later hs21 c_zero_0
  replace c_zero_1 := cell_later hs21 c_zero_1
  replace c_zero_2 := cell_later hs21 c_zero_2
  replace c_q_0 := cell_later hs21 c_q_0
  replace c_q_1 := cell_later hs21 c_q_1
  clear z_g
  have z_g := World.block_lt_of_cell? _ _ c_g_0
  clear z_k
  have z_k := World.block_lt_of_cell? _ _ c_k_0
  clear z_l
  have z_l := World.block_lt_of_cell? _ _ c_l_0
  clear z_m
  have z_m := World.block_lt_of_cell? _ _ c_m_0
  clear z_n
  have z_n := World.block_lt_of_cell? _ _ c_n_0
  clear z_odd
  have z_odd := World.block_lt_of_cell? _ _ c_odd_0
  clear z_q
  have z_q := World.block_lt_of_cell? _ _ c_q_0
  clear z_zero
  have z_zero := World.block_lt_of_cell? _ _ c_zero_0
  have hB21 := below_two hB20 hs21
  clear hB20 hs21
  go_wp2_with fail
  refine (same_is HIg.out HIodd.out (t := false) (decide_eq_false fun h => by have := congrArg List.length h.2.2; simp at this)).mono ?_
  rintro e w22 ⟨rfl, hb22⟩
  have hs22 := hb22
  replace HIm := Lib.hid (HIm.out.later hs22)
  replace HIg := Lib.hid (HIg.out.later hs22)
  replace HIn := Lib.hid (HIn.out.later hs22)
  replace HIodd := Lib.hid (HIodd.out.later hs22)
  replace HIzero := Lib.hid (HIzero.out.later hs22)
  replace c_m_0 := cell_later hs22 c_m_0
  replace c_m_1 := cell_later hs22 c_m_1
  replace c_m_2 := cell_later hs22 c_m_2
  replace c_g_0 := cell_later hs22 c_g_0
  replace c_g_1 := cell_later hs22 c_g_1
  replace c_g_2 := cell_later hs22 c_g_2
  replace c_n_0 := cell_later hs22 c_n_0
  replace c_n_1 := cell_later hs22 c_n_1
  replace c_n_2 := cell_later hs22 c_n_2
  replace c_l_0 := cell_later hs22 c_l_0
  replace c_l_1 := cell_later hs22 c_l_1
  replace c_k_0 := cell_later hs22 c_k_0
  replace c_k_1 := cell_later hs22 c_k_1
  replace c_odd_0 := cell_later hs22 c_odd_0
  replace c_odd_1 := cell_later hs22 c_odd_1
  replace c_odd_2 := cell_later hs22 c_odd_2
  replace c_zero_0 := cell_later hs22 c_zero_0
  replace c_zero_1 := cell_later hs22 c_zero_1
  replace c_zero_2 := cell_later hs22 c_zero_2
  replace c_q_0 := cell_later hs22 c_q_0
  replace c_q_1 := cell_later hs22 c_q_1
  clear z_g
  have z_g := World.block_lt_of_cell? _ _ c_g_0
  clear z_k
  have z_k := World.block_lt_of_cell? _ _ c_k_0
  clear z_l
  have z_l := World.block_lt_of_cell? _ _ c_l_0
  clear z_m
  have z_m := World.block_lt_of_cell? _ _ c_m_0
  clear z_n
  have z_n := World.block_lt_of_cell? _ _ c_n_0
  clear z_odd
  have z_odd := World.block_lt_of_cell? _ _ c_odd_0
  clear z_q
  have z_q := World.block_lt_of_cell? _ _ c_q_0
  clear z_zero
  have z_zero := World.block_lt_of_cell? _ _ c_zero_0
  have hB22 := below_two hB21 hs22
  clear hB21 hs22
  go_wp2
  go_ret
  exact ⟨rfl, hB22⟩

theorem meterSame_calls (a b : Int) (v : Value) (gs : List Int) (a' b' : Int) (v' : Value) (gs' : List Int) (w : World) (hI : Ints w v gs) (ia : Rat.I64 a) (ib : Rat.I64 b) (hgs : ∀ z ∈ gs, Rat.I64 z) (hI' : Ints w v' gs') (ia' : Rat.I64 a') (ib' : Rat.I64 b') (hgs' : ∀ z ∈ gs', Rat.I64 z) : LawHolds 9 #[mt a b v, mt a' b' v'] w := meterSame_w a b v gs a' b' v' gs' w hI hI' ia ib hgs ia' ib' hgs'
end Go.Proofs.Ytlodhfdikglgoaa
