/-
  pitch.Compare once more, with the count of draws that never goes back.
-/
import Derived.Test.YtnfnonlbokddfaaDoorEvPit
import Derived.Shelf.SlSortCmp.QuietGrown
namespace Go.Proofs.YtnfnonlbokddfaaDoor
open Go.RowKit

/-- Nothing old has turned, and no draw was taken back. -/
structure Bel (w w' : World) : Prop where
  b : Below w.heap.size w w'
  d : w.drawn ≤ w'.drawn
theorem Bel.refl (w : World) : Bel w w := ⟨Below.refl _ _, Nat.le_refl _⟩
theorem Bel.alloc {w w' : World} (h : Bel w w') (o : Obj) : Bel w (w'.alloc o) := ⟨h.b.alloc h.b.size o, h.d⟩
theorem Bel.drew {w w' : World} (h : Bel w w') : Bel w w'.drew := ⟨h.b.drew, Nat.le_succ_of_le h.d⟩
theorem Bel.trans {w w1 w2 : World} (h : Bel w w1) (k : Bel w1 w2) : Bel w w2 := ⟨below_two h.b k.b, Nat.le_trans h.d k.d⟩
theorem bel_two {w w1 w2 : World} (h : Bel w w1) (k : Bel w1 w2) : Bel w w2 := h.trans k
theorem bel_alloc {w W : World} {o : Obj} (h : Bel w W) : Bel w (W.alloc o) := h.alloc o
theorem Bel.drewN {w w' : World} (h : Bel w w') (n : Nat) : Bel w (w'.drewN n) := ⟨below_drewN h.b n, Nat.le_trans h.d (Nat.le_add_right _ _)⟩
theorem Ready.bel {w w' : World} (h : Ready w) (k : Bel w w') : Ready w' := h.below k.b
/-- Such a world is the old one after some draws, with some blocks behind it. -/
theorem Bel.grown {w w' : World} (h : Bel w w') : ∃ q os, w' = Go.Sort.grow (w.drewN q) os := by
  obtain ⟨⟨d, os⟩, e⟩ := regrown_of_below h.b
  have hd : w'.drawn = d := by rw [e]; rfl
  refine ⟨d - w.drawn, os, ?_⟩
  rw [e]
  have : d = w.drawn + (d - w.drawn) := by have := h.d; omega
  show Go.Sort.grow (redrawn w d) os = Go.Sort.grow { w with drawn := w.drawn + (d - w.drawn) } os
  rw [← this]
  rfl

set_option maxRecDepth 100000 in
set_option maxHeartbeats 1000000 in
theorem natural_anyD (s o : Int) (w : World) (hR : Ready w) (h0 : 0 ≤ s) (h6 : s ≤ 6) (o0 : -1 ≤ o) (o9 : o ≤ 100) :
    Calls Tryd.prog 120 #[.int .i64 s, .int .i64 o] w fun e w' => e = .returned (.int .i64 (Pit.num s 0 o)) ∧ Bel w w' := by
  have hc := hR.halfI h0 h6
  have hv : -20 ≤ Pit.hv s ∧ Pit.hv s ≤ 20 := by rcases Pit.hv_cases s with ⟨_, e⟩ | ⟨_, e⟩ <;> omega
  have HN : Hid (Pit.num s 0 o = 12 * (o + 1) + Pit.hv s) := Lib.hid (by rw [Pit.num_eq]; omega)
  generalize Pit.hv s = v at *
  generalize Pit.num s 0 o = N at *
  clear hR
  go_enter Tryd.func120, Tryd.ntmps120
  go_wp2
  go_ret
  exact ⟨ret_int HN.out.symm, (by repeat (first | exact Bel.refl _ | refine Bel.drewN ?_ _ | refine Bel.drew ?_ | refine Bel.alloc ?_ _))⟩

set_option maxRecDepth 100000 in
set_option maxHeartbeats 1000000 in
theorem line_anyD (s a o : Int) (w : World) (h : Pit.IsRight s a o) :
    Calls Tryd.prog 118 #[pt s a o] w fun e w' => e = .returned (.int .i64 (Pit.lin s o)) ∧ Bel w w' := by
  obtain ⟨h0, h1, h2, h3, h4, h5, -⟩ := h.all
  have HN : Hid (Pit.lin s o = 7 * o + s) := Lib.hid rfl
  generalize Pit.lin s o = N at *
  clear h
  go_enter Tryd.func118, Tryd.ntmps118
  go_wp2
  go_ret
  exact ⟨ret_int HN.out.symm, (by repeat (first | exact Bel.refl _ | refine Bel.drewN ?_ _ | refine Bel.drew ?_ | refine Bel.alloc ?_ _))⟩

set_option maxRecDepth 100000 in
set_option maxHeartbeats 4000000 in
theorem number_anyD (s a o : Int) (w : World) (hR : Ready w) (h0 : 0 ≤ s) (h6 : s ≤ 6) (a0 : -2 ≤ a) (a2 : a ≤ 2) (o0 : -1 ≤ o) (o9 : o ≤ 9) :
    Calls Tryd.prog 119 #[pt s a o] w fun e w' => e = .returned (.int .i64 (Pit.num s a o)) ∧ Bel w w' := by
  have HN : Hid (Pit.num s 0 o + a = Pit.num s a o) := Lib.hid (by simp only [Pit.num_eq]; omega)
  have hv : -20 ≤ Pit.hv s ∧ Pit.hv s ≤ 20 := by rcases Pit.hv_cases s with ⟨_, e⟩ | ⟨_, e⟩ <;> omega
  have hn : -200 ≤ Pit.num s 0 o ∧ Pit.num s 0 o ≤ 200 := by simp only [Pit.num_eq]; omega
  have hC : ∀ w : World, Ready w → Calls Tryd.prog 120 #[.int .i64 s, .int .i64 o] w fun e w' => e = .returned (.int .i64 (Pit.num s 0 o)) ∧ Bel w w' := fun w hR => natural_anyD s o w hR h0 h6 o0 (by omega)
  clear hv
  generalize Pit.num s 0 o = M at *
  generalize Pit.num s a o = N at *
  have HC := Lib.hid hC
  clear hC
  have hB0 : Bel w w := Bel.refl _
  go_enter Tryd.func119, Tryd.ntmps119
  go_wp2_with fail
  have hs1 : Bel w (w.alloc (.cells #[.int .i64 s, .int .i64 a, .int .i64 o] 57)) := by repeat (first | exact Bel.refl _ | refine Bel.alloc ?_ _)
  have c_p_0 : (w.alloc (.cells #[.int .i64 s, .int .i64 a, .int .i64 o] 57)).cell? ⟨w.heap.size, 0, none⟩ = some (.int .i64 s) := by go_simp
  have c_p_1 : (w.alloc (.cells #[.int .i64 s, .int .i64 a, .int .i64 o] 57)).cell? ⟨w.heap.size, 1, none⟩ = some (.int .i64 a) := by go_simp
  have c_p_2 : (w.alloc (.cells #[.int .i64 s, .int .i64 a, .int .i64 o] 57)).cell? ⟨w.heap.size, 2, none⟩ = some (.int .i64 o) := by go_simp
  have hB1 := bel_two hB0 hs1
  clear hB0 hs1
  generalize (w.alloc (.cells #[.int .i64 s, .int .i64 a, .int .i64 o] 57)) = w1 at *
  have z_p := World.block_lt_of_cell? _ _ c_p_0
  go_region_held3 (fun w' => w'.cell? ⟨w.heap.size, 0, none⟩ = some (.int .i64 s) ∧ w'.cell? ⟨w.heap.size, 1, none⟩ = some (.int .i64 a) ∧ w'.cell? ⟨w.heap.size, 2, none⟩ = some (.int .i64 o) ∧ Bel w w')
    (((try go_split_ands); refine ⟨?_, ?_, ?_, ?_⟩ <;> first | with_reducible assumption | (with_reducible refine cell_later (Bel.b hq) ?_; with_reducible assumption) | (with_reducible refine bel_two ?_ hq; with_reducible assumption) | with_reducible exact cell_drew c_p_0 | with_reducible exact cell_drew c_p_1 | with_reducible exact cell_drew c_p_2 | with_reducible exact hB1.drew))
    (first
      | (go_at_call 120; (try go_split_ands); refine (HC.out _ (hR.bel ?_)).mono ?_; assumption; rintro e w2 ⟨rfl, hq⟩))
  rename_i hS
  clear c_p_0 c_p_1 c_p_2 hB1 z_p
  obtain ⟨c_p_0, c_p_1, c_p_2, hB2⟩ := hS
  have z_p := World.block_lt_of_cell? _ _ c_p_0
  go_wp2
  go_ret
  exact ⟨ret_int ((IntWalk.i64_in _ (by omega)).trans HN.out), hB2⟩

set_option maxRecDepth 100000 in
set_option maxHeartbeats 4000000 in
theorem right_5D (s a o : Int) (w : World) (hR : Ready w) (h0 : 0 ≤ s) (h6 : s ≤ 6)(a0 : -2 ≤ a) (a2 : a ≤ 2)(o0 : -1 ≤ o) (o9 : o ≤ 9) (n0 : 0 ≤ Pit.num s a o) (nM : Pit.num s a o ≤ 127) :
    Calls Tryd.prog 113 #[pt s a o] w fun e w' => e = .returned (.bool true) ∧ Bel w w' := by
  have hB0 : Bel w w := Bel.refl _
  go_enter Tryd.func113, Tryd.ntmps113
  go_wp2_with fail
  refine (within_yes h0 h6 _).mono ?_
  rintro e wx ⟨rfl, rfl⟩
  go_wp2_with fail
  refine (within_yes a0 a2 _).mono ?_
  rintro e wx ⟨rfl, rfl⟩
  go_wp2_with fail
  refine (within_yes o0 o9 _).mono ?_
  rintro e wx ⟨rfl, rfl⟩
  go_wp2_with fail
  refine (number_anyD _ _ _ _ (hR.bel (by repeat (first | exact Bel.refl _ | refine Bel.alloc ?_ _))) h0 h6 a0 a2 o0 o9).mono ?_
  rintro e w1 ⟨rfl, hb1⟩
  have hs1 : Bel w w1 := Bel.trans (by repeat (first | exact Bel.refl _ | refine Bel.alloc ?_ _)) hb1
  have c_p_0 : w1.cell? ⟨w.heap.size, 0, none⟩ = some (.int .i64 s) := (hb1.b.cell (by simp <;> omega)).trans (by go_simp)
  have c_p_1 : w1.cell? ⟨w.heap.size, 1, none⟩ = some (.int .i64 a) := (hb1.b.cell (by simp <;> omega)).trans (by go_simp)
  have c_p_2 : w1.cell? ⟨w.heap.size, 2, none⟩ = some (.int .i64 o) := (hb1.b.cell (by simp <;> omega)).trans (by go_simp)
  have z_p := World.block_lt_of_cell? _ _ c_p_0
  have hB1 := bel_two hB0 hs1
  clear hB0 hs1 hb1
  go_wp2_with fail
  refine (within_yes n0 nM _).mono ?_
  rintro e wx ⟨rfl, rfl⟩
  go_wp2
  go_ret
  exact ⟨rfl, hB1⟩

theorem right_yesD {s a o : Int} (h : Pit.IsRight s a o) (w : World) (hR : Ready w) :
    Calls Tryd.prog 113 #[pt s a o] w fun e w' => e = .returned (.bool true) ∧ Bel w w' := right_5D s a o w hR h.s0 h.s6 h.a0 h.a2 h.o0 h.o9 h.n0 h.nM
theorem number_rightD {s a o : Int} (h : Pit.IsRight s a o) (w : World) (hR : Ready w) :
    Calls Tryd.prog 119 #[pt s a o] w fun e w' => e = .returned (.int .i64 (Pit.num s a o)) ∧ Bel w w' :=
  number_anyD s a o w hR h.s0 h.s6 h.a0 h.a2 h.o0 h.o9

set_option maxRecDepth 100000 in
set_option maxHeartbeats 4000000 in
theorem compare_yesD (s a o t b p : Int) (w : World) (hR : Ready w) (h1 : Pit.IsRight s a o) (h2 : Pit.IsRight t b p) :
    Calls Tryd.prog 90 #[pt s a o, pt t b p] w fun e w' => e = .returned (.int .i64 (orV (Pit.cmp (Pit.num s a o) (Pit.num t b p)) (Pit.cmp (Pit.lin s o) (Pit.lin t p)))) ∧ Bel w w' := by
  have hB0 : Bel w w := Bel.refl _
  go_enter Tryd.func90, Tryd.ntmps90
  go_wp2_with fail
  refine (right_yesD h1 _ (hR.bel (by repeat (first | exact Bel.refl _ | refine Bel.alloc ?_ _)))).mono ?_
  rintro e w1 ⟨rfl, hb1⟩
  have hs1 : Bel w w1 := Bel.trans (by repeat (first | exact Bel.refl _ | refine Bel.alloc ?_ _)) hb1
  have c_a_0 : w1.cell? ⟨w.heap.size, 0, none⟩ = some (.int .i64 s) := (hb1.b.cell (by simp <;> omega)).trans (by go_simp)
  have c_a_1 : w1.cell? ⟨w.heap.size, 1, none⟩ = some (.int .i64 a) := (hb1.b.cell (by simp <;> omega)).trans (by go_simp)
  have c_a_2 : w1.cell? ⟨w.heap.size, 2, none⟩ = some (.int .i64 o) := (hb1.b.cell (by simp <;> omega)).trans (by go_simp)
  have c_b_0 : w1.cell? ⟨w.heap.size + 1, 0, none⟩ = some (.int .i64 t) := (hb1.b.cell (by simp <;> omega)).trans (by go_simp)
  have c_b_1 : w1.cell? ⟨w.heap.size + 1, 1, none⟩ = some (.int .i64 b) := (hb1.b.cell (by simp <;> omega)).trans (by go_simp)
  have c_b_2 : w1.cell? ⟨w.heap.size + 1, 2, none⟩ = some (.int .i64 p) := (hb1.b.cell (by simp <;> omega)).trans (by go_simp)
  have z_a := World.block_lt_of_cell? _ _ c_a_0
  have z_b := World.block_lt_of_cell? _ _ c_b_0
  have hB1 := bel_two hB0 hs1
  clear hB0 hs1 hb1
  go_wp2_with fail
  have hR' := hR.bel hB1
  refine (right_yesD h2 _ hR').mono ?_
  rintro e w2 ⟨rfl, hb2⟩
  clear hR'
  have hs2 := hb2
  replace c_a_0 := cell_later hs2.b c_a_0
  replace c_a_1 := cell_later hs2.b c_a_1
  replace c_a_2 := cell_later hs2.b c_a_2
  replace c_b_0 := cell_later hs2.b c_b_0
  replace c_b_1 := cell_later hs2.b c_b_1
  replace c_b_2 := cell_later hs2.b c_b_2
  clear z_a
  have z_a := World.block_lt_of_cell? _ _ c_a_0
  clear z_b
  have z_b := World.block_lt_of_cell? _ _ c_b_0
  have hB2 := bel_two hB1 hs2
  clear hB1 hs2
  go_wp2_with fail
  go_region_held3 (fun w' => w'.cell? ⟨w.heap.size, 0, none⟩ = some (.int .i64 s) ∧ w'.cell? ⟨w.heap.size, 1, none⟩ = some (.int .i64 a) ∧ w'.cell? ⟨w.heap.size, 2, none⟩ = some (.int .i64 o) ∧ w'.cell? ⟨w.heap.size + 1, 0, none⟩ = some (.int .i64 t) ∧ w'.cell? ⟨w.heap.size + 1, 1, none⟩ = some (.int .i64 b) ∧ w'.cell? ⟨w.heap.size + 1, 2, none⟩ = some (.int .i64 p) ∧ Bel w w')
    (((try go_split_ands); refine ⟨?_, ?_, ?_, ?_, ?_, ?_, ?_⟩ <;> first | with_reducible assumption | (with_reducible refine cell_later (Bel.b hq) ?_; with_reducible assumption) | (with_reducible refine bel_two ?_ hq; with_reducible assumption) | (with_reducible refine alloc_cell ?_; with_reducible assumption) | (with_reducible refine bel_alloc ?_; with_reducible assumption) | with_reducible exact cell_drew c_a_0 | with_reducible exact cell_drew c_a_1 | with_reducible exact cell_drew c_a_2 | with_reducible exact cell_drew c_b_0 | with_reducible exact cell_drew c_b_1 | with_reducible exact cell_drew c_b_2 | with_reducible exact hB2.drew))
    (first
      | (go_at_call 118; refine (line_anyD _ _ _ _ ?_).mono ?_; (first | exact h1 | exact h2); rintro e w3 ⟨rfl, hq⟩)
      | (go_at_call 119; (try go_split_ands); refine (number_rightD ?_ _ (hR.bel ?_)).mono ?_; (first | exact h1 | exact h2); assumption; rintro e w3 ⟨rfl, hq⟩)
      | (go_at_call 60; refine (cmp_any _ _ _).mono ?_; rintro e w3 ⟨rfl, rfl⟩)
      | (go_at_call 126; refine (or_any _ _ _ _ _ new_0 new_1).mono ?_; rintro e w3 ⟨rfl, rfl⟩))
  rename_i hS
  clear c_a_0 c_a_1 c_a_2 c_b_0 c_b_1 c_b_2 hB2 z_a z_b
  obtain ⟨c_a_0, c_a_1, c_a_2, c_b_0, c_b_1, c_b_2, hB3⟩ := hS
  have z_a := World.block_lt_of_cell? _ _ c_a_0
  have z_b := World.block_lt_of_cell? _ _ c_b_0
  go_wp2
  go_ret
  exact ⟨rfl, hB3⟩

end Go.Proofs.YtnfnonlbokddfaaDoor
