/-
  The contracts of cmp.Compare and cmp.Or at int, and of pitch.Compare.
-/
import Derived.Test.YtoopchnncjfjoaaDoorPitB
namespace Go.Proofs.YtoopchnncjfjoaaDoor
open Go.RowKit

set_option maxHeartbeats 1000000 in
theorem cmp_any (x y : Int) (w : World) :
    Calls Tryd.prog 38 #[.int .i64 x, .int .i64 y] w fun e w' => e = .returned (.int .i64 (Pit.cmp x y)) ∧ w = w' := by
  rcases Pit.cmp_cases x y with ⟨h, e⟩ | ⟨h, e⟩ | ⟨h, e⟩
  · rw [e]
    have h2 : ¬ y < x := by omega
    go_enter Tryd.func38, Tryd.ntmps38
    go_wp2
    go_ret
    exact ⟨rfl, rfl⟩
  · rw [e]
    subst h
    go_enter Tryd.func38, Tryd.ntmps38
    go_wp2
    go_ret
    exact ⟨rfl, rfl⟩
  · rw [e]
    have h2 : ¬ x < y := by omega
    go_enter Tryd.func38, Tryd.ntmps38
    go_wp2
    go_ret
    exact ⟨rfl, rfl⟩

def orV (x y : Int) : Int := if x = 0 then y else x
theorem orV_1 {x y : Int} (h : x = 0) : orV x y = y := if_pos h
theorem orV_2 {x y : Int} (h : ¬ x = 0) : orV x y = x := if_neg h
def OrRel (x y : Int) (i : Value) : Prop := i = .int .i64 0 ∨ (i = .int .i64 1 ∧ x = 0) ∨ (i = .int .i64 2 ∧ x = 0 ∧ y = 0)
set_option maxRecDepth 100000 in
set_option maxHeartbeats 2000000 in
theorem or_any (x y : Int) (b : Nat) (c : Nat) (w : World) (h0 : w.cell? ⟨b, 0, none⟩ = some (.int .i64 x)) (h1 : w.cell? ⟨b, 1, none⟩ = some (.int .i64 y)) :
    Calls Tryd.prog 37 #[.slice (some ⟨b, 0, none⟩) 2 c] w fun e w' => e = .returned (.int .i64 (orV x y)) ∧ w = w' := by
  go_enter Tryd.func37, Tryd.ntmps37
  go_wp2
  go_loop [8] (OrRel x y) (fun i => 2 - (intOf i).toNat)
  case atStart => exact Or.inl rfl
  case round =>
    rcases hrel with rfl | ⟨rfl, rfl⟩ | ⟨rfl, rfl, rfl⟩
    · by_cases hx : x = 0
      · subst hx
        go_wp2
        exact ⟨Or.inr (Or.inl ⟨rfl, rfl⟩), by simp [intOf]⟩
      · have hx1 : (x != 0) = true := by simp [hx]
        go_wp2
        go_ret
        exact ⟨ret_int (orV_2 hx).symm, rfl⟩
    · by_cases hy : y = 0
      · subst hy
        go_wp2
        exact ⟨Or.inr (Or.inr ⟨rfl, rfl, rfl⟩), by simp [intOf]⟩
      · have hy1 : (y != 0) = true := by simp [hy]
        go_wp2
        go_ret
        exact ⟨ret_int (orV_1 rfl).symm, rfl⟩
    · go_wp2
      go_ret
      exact ⟨ret_int (orV_1 rfl).symm, rfl⟩
theorem new_0 {w : World} {x y : Value} {t : TypeId} : (w.alloc (.cells #[x, y] t)).cell? ⟨w.heap.size, 0, none⟩ = some x := by go_simp
theorem new_1 {w : World} {x y : Value} {t : TypeId} : (w.alloc (.cells #[x, y] t)).cell? ⟨w.heap.size, 1, none⟩ = some y := by go_simp

set_option maxRecDepth 100000 in
set_option maxHeartbeats 4000000 in
theorem compare_no1 (s a o t b p : Int) (w : World) (hR : Ready w) (h : Pit.right s a o = false) :
    Calls Tryd.prog 27 #[pt s a o, pt t b p] w fun e w' => e = .returned (.int .i64 0) ∧ Below w.heap.size w w' := by
  have hB0 : Below w.heap.size w w := Below.refl _ _
  go_enter Tryd.func27, Tryd.ntmps27
  go_wp2_with fail
  have hR' := hR.below ((hB0.alloc hB0.size (.cells #[.int .i64 s, .int .i64 a, .int .i64 o] 23)).alloc (hB0.alloc hB0.size (.cells #[.int .i64 s, .int .i64 a, .int .i64 o] 23)).size (.cells #[.int .i64 t, .int .i64 b, .int .i64 p] 23))
  refine (right_no h _ hR').mono ?_
  rintro e w1 ⟨rfl, hb1⟩
  clear hR'
  have hs1 : Below w.heap.size w w1 := Below.trans (by repeat (first | exact Below.refl _ _ | refine Below.alloc ?_ (by simp <;> omega) _)) (hb1.mono (by simp <;> omega))
  have hB1 := below_two hB0 hs1
  clear hB0 hs1 hb1
  go_wp2
  go_ret
  exact ⟨rfl, hB1⟩

set_option maxRecDepth 100000 in
set_option maxHeartbeats 4000000 in
theorem compare_no2 (s a o t b p : Int) (w : World) (hR : Ready w) (h1 : Pit.IsRight s a o) (h : Pit.right t b p = false) :
    Calls Tryd.prog 27 #[pt s a o, pt t b p] w fun e w' => e = .returned (.int .i64 0) ∧ Below w.heap.size w w' := by
  have hB0 : Below w.heap.size w w := Below.refl _ _
  go_enter Tryd.func27, Tryd.ntmps27
  go_wp2_with fail
  have hR' := hR.below ((hB0.alloc hB0.size (.cells #[.int .i64 s, .int .i64 a, .int .i64 o] 23)).alloc (hB0.alloc hB0.size (.cells #[.int .i64 s, .int .i64 a, .int .i64 o] 23)).size (.cells #[.int .i64 t, .int .i64 b, .int .i64 p] 23))
  refine (right_yes h1 _ hR').mono ?_
  rintro e w1 ⟨rfl, hb1⟩
  clear hR'
  have hs1 : Below w.heap.size w w1 := Below.trans (by repeat (first | exact Below.refl _ _ | refine Below.alloc ?_ (by simp <;> omega) _)) (hb1.mono (by simp <;> omega))
  have c_b_0 : w1.cell? ⟨w.heap.size + 1, 0, none⟩ = some (.int .i64 t) := (hb1.cell (by simp <;> omega)).trans (by go_simp)
  have c_b_1 : w1.cell? ⟨w.heap.size + 1, 1, none⟩ = some (.int .i64 b) := (hb1.cell (by simp <;> omega)).trans (by go_simp)
  have c_b_2 : w1.cell? ⟨w.heap.size + 1, 2, none⟩ = some (.int .i64 p) := (hb1.cell (by simp <;> omega)).trans (by go_simp)
  have z_b := World.block_lt_of_cell? _ _ c_b_0
  have hB1 := below_two hB0 hs1
  clear hB0 hs1 hb1
  go_wp2_with fail
  have hR' := hR.below hB1
  refine (right_no h _ hR').mono ?_
  rintro e w2 ⟨rfl, hb2⟩
  clear hR'
  have hs2 := hb2
  clear c_b_0
  clear c_b_1
  clear c_b_2
  clear z_b
  have hB2 := below_two hB1 hs2
  clear hB1 hs2
  go_wp2
  go_ret
  exact ⟨rfl, hB2⟩

set_option maxRecDepth 100000 in
set_option maxHeartbeats 4000000 in
theorem compare_yes (s a o t b p : Int) (w : World) (hR : Ready w) (h1 : Pit.IsRight s a o) (h2 : Pit.IsRight t b p) :
    Calls Tryd.prog 27 #[pt s a o, pt t b p] w fun e w' => e = .returned (.int .i64 (orV (Pit.cmp (Pit.num s a o) (Pit.num t b p)) (Pit.cmp (Pit.lin s o) (Pit.lin t p)))) ∧ Below w.heap.size w w' := by
  have hB0 : Below w.heap.size w w := Below.refl _ _
  go_enter Tryd.func27, Tryd.ntmps27
  go_wp2_with fail
  have hR' := hR.below ((hB0.alloc hB0.size (.cells #[.int .i64 s, .int .i64 a, .int .i64 o] 23)).alloc (hB0.alloc hB0.size (.cells #[.int .i64 s, .int .i64 a, .int .i64 o] 23)).size (.cells #[.int .i64 t, .int .i64 b, .int .i64 p] 23))
  refine (right_yes h1 _ hR').mono ?_
  rintro e w1 ⟨rfl, hb1⟩
  clear hR'
  have hs1 : Below w.heap.size w w1 := Below.trans (by repeat (first | exact Below.refl _ _ | refine Below.alloc ?_ (by simp <;> omega) _)) (hb1.mono (by simp <;> omega))
  have c_a_0 : w1.cell? ⟨w.heap.size, 0, none⟩ = some (.int .i64 s) := (hb1.cell (by simp <;> omega)).trans (by go_simp)
  have c_a_1 : w1.cell? ⟨w.heap.size, 1, none⟩ = some (.int .i64 a) := (hb1.cell (by simp <;> omega)).trans (by go_simp)
  have c_a_2 : w1.cell? ⟨w.heap.size, 2, none⟩ = some (.int .i64 o) := (hb1.cell (by simp <;> omega)).trans (by go_simp)
  have c_b_0 : w1.cell? ⟨w.heap.size + 1, 0, none⟩ = some (.int .i64 t) := (hb1.cell (by simp <;> omega)).trans (by go_simp)
  have c_b_1 : w1.cell? ⟨w.heap.size + 1, 1, none⟩ = some (.int .i64 b) := (hb1.cell (by simp <;> omega)).trans (by go_simp)
  have c_b_2 : w1.cell? ⟨w.heap.size + 1, 2, none⟩ = some (.int .i64 p) := (hb1.cell (by simp <;> omega)).trans (by go_simp)
  have z_a := World.block_lt_of_cell? _ _ c_a_0
  have z_b := World.block_lt_of_cell? _ _ c_b_0
  have hB1 := below_two hB0 hs1
  clear hB0 hs1 hb1
  go_wp2_with fail
  have hR' := hR.below hB1
  refine (right_yes h2 _ hR').mono ?_
  rintro e w2 ⟨rfl, hb2⟩
  clear hR'
  have hs2 := hb2
  replace c_a_0 := cell_later hs2 c_a_0
  replace c_a_1 := cell_later hs2 c_a_1
  replace c_a_2 := cell_later hs2 c_a_2
  replace c_b_0 := cell_later hs2 c_b_0
  replace c_b_1 := cell_later hs2 c_b_1
  replace c_b_2 := cell_later hs2 c_b_2
  clear z_a
  have z_a := World.block_lt_of_cell? _ _ c_a_0
  clear z_b
  have z_b := World.block_lt_of_cell? _ _ c_b_0
  have hB2 := below_two hB1 hs2
  clear hB1 hs2
  go_wp2_with fail
  go_region_held3 (fun w' => w'.cell? ⟨w.heap.size, 0, none⟩ = some (.int .i64 s) ∧ w'.cell? ⟨w.heap.size, 1, none⟩ = some (.int .i64 a) ∧ w'.cell? ⟨w.heap.size, 2, none⟩ = some (.int .i64 o) ∧ w'.cell? ⟨w.heap.size + 1, 0, none⟩ = some (.int .i64 t) ∧ w'.cell? ⟨w.heap.size + 1, 1, none⟩ = some (.int .i64 b) ∧ w'.cell? ⟨w.heap.size + 1, 2, none⟩ = some (.int .i64 p) ∧ Below w.heap.size w w')
    (((try go_split_ands); refine ⟨?_, ?_, ?_, ?_, ?_, ?_, ?_⟩ <;> first | with_reducible assumption | (with_reducible refine cell_later hq ?_; with_reducible assumption) | (with_reducible refine below_two ?_ hq; with_reducible assumption) | (with_reducible refine alloc_cell ?_; with_reducible assumption) | (with_reducible refine alloc_below ?_; with_reducible assumption) | with_reducible exact cell_drew c_a_0 | with_reducible exact cell_drew c_a_1 | with_reducible exact cell_drew c_a_2 | with_reducible exact cell_drew c_b_0 | with_reducible exact cell_drew c_b_1 | with_reducible exact cell_drew c_b_2 | with_reducible exact hB2.drew))
    (first
      | (go_at_call 33; refine (line_any _ _ _ _ ?_).mono ?_; (first | exact h1 | exact h2); rintro e w3 ⟨rfl, hq⟩)
      | (go_at_call 31; (try go_split_ands); refine (number_right ?_ _ (hR.below ?_)).mono ?_; (first | exact h1 | exact h2); assumption; rintro e w3 ⟨rfl, hq⟩)
      | (go_at_call 38; refine (cmp_any _ _ _).mono ?_; rintro e w3 ⟨rfl, rfl⟩)
      | (go_at_call 37; refine (or_any _ _ _ _ _ new_0 new_1).mono ?_; rintro e w3 ⟨rfl, rfl⟩))
  rename_i hS
  clear c_a_0 c_a_1 c_a_2 c_b_0 c_b_1 c_b_2 hB2 z_a z_b
  obtain ⟨c_a_0, c_a_1, c_a_2, c_b_0, c_b_1, c_b_2, hB3⟩ := hS
  have z_a := World.block_lt_of_cell? _ _ c_a_0
  have z_b := World.block_lt_of_cell? _ _ c_b_0
  go_wp2
  go_ret
  exact ⟨rfl, hB3⟩

theorem compare_any (s a o t b p : Int) (w : World) (hR : Ready w) :
    Calls Tryd.prog 27 #[pt s a o, pt t b p] w fun e w' => e = .returned (.int .i64 (Pit.cmpP (Pit.right s a o && Pit.right t b p) s a o t b p)) ∧ Below w.heap.size w w' := by
  cases h1 : Pit.right s a o
  · exact compare_no1 s a o t b p w hR h1
  · cases h2 : Pit.right t b p
    · exact compare_no2 s a o t b p w hR ((Pit.right_iff _ _ _).1 h1) h2
    · exact compare_yes s a o t b p w hR ((Pit.right_iff _ _ _).1 h1) ((Pit.right_iff _ _ _).1 h2)
end Go.Proofs.YtoopchnncjfjoaaDoor
