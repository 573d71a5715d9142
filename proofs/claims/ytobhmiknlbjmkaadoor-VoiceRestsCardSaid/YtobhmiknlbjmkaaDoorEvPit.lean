/-
  Out of layer 2: the contracts of pitch.Right, Up, Compare and of cmp.Compare; '==' on pitches.
-/
import Derived.Test.YtobhmiknlbjmkaaDoorEvRat
namespace Go.Proofs.YtobhmiknlbjmkaaDoor
open Go.RowKit

theorem within_any (n l m : Int) (w : World) :
    Calls Tryd.prog 85 #[.int .i64 n, .int .i64 l, .int .i64 m] w fun e w' => e = .returned (.bool (decide (l ≤ n ∧ n ≤ m))) ∧ w = w' := by
  by_cases h1 : l ≤ n
  · by_cases h2 : n ≤ m
    · rw [decide_eq_true (⟨h1, h2⟩ : l ≤ n ∧ n ≤ m)]
      go_enter Tryd.func85, Tryd.ntmps85
      go_wp2
      go_ret
      exact ⟨rfl, rfl⟩
    · rw [decide_eq_false (fun h : l ≤ n ∧ n ≤ m => h2 h.2)]
      go_enter Tryd.func85, Tryd.ntmps85
      go_wp2
      go_ret
      exact ⟨rfl, rfl⟩
  · rw [decide_eq_false (fun h : l ≤ n ∧ n ≤ m => h1 h.1)]
    go_enter Tryd.func85, Tryd.ntmps85
    go_wp2
    go_ret
    exact ⟨rfl, rfl⟩

theorem within_yes {n l m : Int} (h1 : l ≤ n) (h2 : n ≤ m) (w : World) :
    Calls Tryd.prog 85 #[.int .i64 n, .int .i64 l, .int .i64 m] w fun e w' => e = .returned (.bool true) ∧ w = w' := by
  have := within_any n l m w
  rw [decide_eq_true (⟨h1, h2⟩ : l ≤ n ∧ n ≤ m)] at this
  exact this

theorem within_no {n l m : Int} (h : ¬ (l ≤ n ∧ n ≤ m)) (w : World) :
    Calls Tryd.prog 85 #[.int .i64 n, .int .i64 l, .int .i64 m] w fun e w' => e = .returned (.bool false) ∧ w = w' := by
  have := within_any n l m w
  rw [decide_eq_false h] at this
  exact this

set_option maxRecDepth 100000 in
set_option maxHeartbeats 1000000 in
theorem natural_any (s o : Int) (w : World) (hR : Ready w) (h0 : 0 ≤ s) (h6 : s ≤ 6) (o0 : -1 ≤ o) (o9 : o ≤ 100) :
    Calls Tryd.prog 93 #[.int .i64 s, .int .i64 o] w fun e w' => e = .returned (.int .i64 (Pit.num s 0 o)) ∧ Below w.heap.size w w' := by
  have hc := hR.halfI h0 h6
  have hv : -20 ≤ Pit.hv s ∧ Pit.hv s ≤ 20 := by rcases Pit.hv_cases s with ⟨_, e⟩ | ⟨_, e⟩ <;> omega
  have HN : Hid (Pit.num s 0 o = 12 * (o + 1) + Pit.hv s) := Lib.hid (by rw [Pit.num_eq]; omega)
  generalize Pit.hv s = v at *
  generalize Pit.num s 0 o = N at *
  clear hR
  go_enter Tryd.func93, Tryd.ntmps93
  go_wp2
  go_ret
  exact ⟨ret_int HN.out.symm, (by repeat (first | exact Below.refl _ _ | refine below_drewN ?_ _ | refine Below.drew ?_ | refine Below.setCell ?_ (by simp) _ | refine Below.alloc ?_ (by simp) _))⟩

set_option maxRecDepth 100000 in
set_option maxHeartbeats 1000000 in
theorem line_any (s a o : Int) (w : World) (h : Pit.IsRight s a o) :
    Calls Tryd.prog 88 #[pt s a o] w fun e w' => e = .returned (.int .i64 (Pit.lin s o)) ∧ Below w.heap.size w w' := by
  obtain ⟨h0, h1, h2, h3, h4, h5, -⟩ := h.all
  have HN : Hid (Pit.lin s o = 7 * o + s) := Lib.hid rfl
  generalize Pit.lin s o = N at *
  clear h
  go_enter Tryd.func88, Tryd.ntmps88
  go_wp2
  go_ret
  exact ⟨ret_int HN.out.symm, (by repeat (first | exact Below.refl _ _ | refine below_drewN ?_ _ | refine Below.drew ?_ | refine Below.setCell ?_ (by simp) _ | refine Below.alloc ?_ (by simp) _))⟩

set_option maxRecDepth 100000 in
set_option maxHeartbeats 4000000 in
theorem number_any (s a o : Int) (w : World) (hR : Ready w) (h0 : 0 ≤ s) (h6 : s ≤ 6) (a0 : -2 ≤ a) (a2 : a ≤ 2) (o0 : -1 ≤ o) (o9 : o ≤ 9) :
    Calls Tryd.prog 86 #[pt s a o] w fun e w' => e = .returned (.int .i64 (Pit.num s a o)) ∧ Below w.heap.size w w' := by
  have HN : Hid (Pit.num s 0 o + a = Pit.num s a o) := Lib.hid (by simp only [Pit.num_eq]; omega)
  have hv : -20 ≤ Pit.hv s ∧ Pit.hv s ≤ 20 := by rcases Pit.hv_cases s with ⟨_, e⟩ | ⟨_, e⟩ <;> omega
  have hn : -200 ≤ Pit.num s 0 o ∧ Pit.num s 0 o ≤ 200 := by simp only [Pit.num_eq]; omega
  have hC : ∀ w : World, Ready w → Calls Tryd.prog 93 #[.int .i64 s, .int .i64 o] w fun e w' => e = .returned (.int .i64 (Pit.num s 0 o)) ∧ Below w.heap.size w w' := fun w hR => natural_any s o w hR h0 h6 o0 (by omega)
  clear hv
  generalize Pit.num s 0 o = M at *
  generalize Pit.num s a o = N at *
  have HC := Lib.hid hC
  clear hC
  have hB0 : Below w.heap.size w w := Below.refl _ _
  go_enter Tryd.func86, Tryd.ntmps86
  go_wp2_with fail
  have hs1 : Below w.heap.size w (w.alloc (.cells #[.int .i64 s, .int .i64 a, .int .i64 o] 41)) := by repeat (first | exact Below.refl _ _ | refine Below.alloc ?_ (by simp <;> omega) _)
  have c_p_0 : (w.alloc (.cells #[.int .i64 s, .int .i64 a, .int .i64 o] 41)).cell? ⟨w.heap.size, 0, none⟩ = some (.int .i64 s) := by go_simp
  have c_p_1 : (w.alloc (.cells #[.int .i64 s, .int .i64 a, .int .i64 o] 41)).cell? ⟨w.heap.size, 1, none⟩ = some (.int .i64 a) := by go_simp
  have c_p_2 : (w.alloc (.cells #[.int .i64 s, .int .i64 a, .int .i64 o] 41)).cell? ⟨w.heap.size, 2, none⟩ = some (.int .i64 o) := by go_simp
  have hB1 := below_two hB0 hs1
  clear hB0 hs1
  generalize (w.alloc (.cells #[.int .i64 s, .int .i64 a, .int .i64 o] 41)) = w1 at *
  have z_p := World.block_lt_of_cell? _ _ c_p_0
  go_region_held3 (fun w' => w'.cell? ⟨w.heap.size, 0, none⟩ = some (.int .i64 s) ∧ w'.cell? ⟨w.heap.size, 1, none⟩ = some (.int .i64 a) ∧ w'.cell? ⟨w.heap.size, 2, none⟩ = some (.int .i64 o) ∧ Below w.heap.size w w')
    (((try go_split_ands); refine ⟨?_, ?_, ?_, ?_⟩ <;> first | with_reducible assumption | (with_reducible refine cell_later hq ?_; with_reducible assumption) | (with_reducible refine below_two ?_ hq; with_reducible assumption) | with_reducible exact cell_drew c_p_0 | with_reducible exact cell_drew c_p_1 | with_reducible exact cell_drew c_p_2 | with_reducible exact hB1.drew))
    (first
      | (go_at_call 93; (try go_split_ands); refine (HC.out _ (hR.below ?_)).mono ?_; assumption; rintro e w2 ⟨rfl, hq⟩))
  rename_i hS
  clear c_p_0 c_p_1 c_p_2 hB1 z_p
  obtain ⟨c_p_0, c_p_1, c_p_2, hB2⟩ := hS
  have z_p := World.block_lt_of_cell? _ _ c_p_0
  go_wp2
  go_ret
  exact ⟨ret_int ((IntWalk.i64_in _ (by omega)).trans HN.out), hB2⟩

set_option maxRecDepth 100000 in
set_option maxHeartbeats 4000000 in
theorem right_1 (s a o : Int) (w : World)  (h : ¬ (0 ≤ s ∧ s ≤ 6)) :
    Calls Tryd.prog 72 #[pt s a o] w fun e w' => e = .returned (.bool false) ∧ Below w.heap.size w w' := by
  have hB0 : Below w.heap.size w w := Below.refl _ _
  go_enter Tryd.func72, Tryd.ntmps72
  go_wp2_with fail
  refine (within_no h _).mono ?_
  rintro e wx ⟨rfl, rfl⟩
  go_wp2
  go_ret
  exact ⟨rfl, (hB0.alloc hB0.size (.cells #[.int .i64 s, .int .i64 a, .int .i64 o] 41))⟩

set_option maxRecDepth 100000 in
set_option maxHeartbeats 4000000 in
theorem right_2 (s a o : Int) (w : World)  (h0 : 0 ≤ s) (h6 : s ≤ 6) (h : ¬ (-2 ≤ a ∧ a ≤ 2)) :
    Calls Tryd.prog 72 #[pt s a o] w fun e w' => e = .returned (.bool false) ∧ Below w.heap.size w w' := by
  have hB0 : Below w.heap.size w w := Below.refl _ _
  go_enter Tryd.func72, Tryd.ntmps72
  go_wp2_with fail
  refine (within_yes h0 h6 _).mono ?_
  rintro e wx ⟨rfl, rfl⟩
  go_wp2_with fail
  refine (within_no h _).mono ?_
  rintro e wx ⟨rfl, rfl⟩
  go_wp2
  go_ret
  exact ⟨rfl, (hB0.alloc hB0.size (.cells #[.int .i64 s, .int .i64 a, .int .i64 o] 41))⟩

set_option maxRecDepth 100000 in
set_option maxHeartbeats 4000000 in
theorem right_3 (s a o : Int) (w : World)  (h0 : 0 ≤ s) (h6 : s ≤ 6)(a0 : -2 ≤ a) (a2 : a ≤ 2) (h : ¬ (-1 ≤ o ∧ o ≤ 9)) :
    Calls Tryd.prog 72 #[pt s a o] w fun e w' => e = .returned (.bool false) ∧ Below w.heap.size w w' := by
  have hB0 : Below w.heap.size w w := Below.refl _ _
  go_enter Tryd.func72, Tryd.ntmps72
  go_wp2_with fail
  refine (within_yes h0 h6 _).mono ?_
  rintro e wx ⟨rfl, rfl⟩
  go_wp2_with fail
  refine (within_yes a0 a2 _).mono ?_
  rintro e wx ⟨rfl, rfl⟩
  go_wp2_with fail
  refine (within_no h _).mono ?_
  rintro e wx ⟨rfl, rfl⟩
  go_wp2
  go_ret
  exact ⟨rfl, (hB0.alloc hB0.size (.cells #[.int .i64 s, .int .i64 a, .int .i64 o] 41))⟩

set_option maxRecDepth 100000 in
set_option maxHeartbeats 4000000 in
theorem right_4 (s a o : Int) (w : World) (hR : Ready w) (h0 : 0 ≤ s) (h6 : s ≤ 6)(a0 : -2 ≤ a) (a2 : a ≤ 2)(o0 : -1 ≤ o) (o9 : o ≤ 9) (h : ¬ (0 ≤ Pit.num s a o ∧ Pit.num s a o ≤ 127)) :
    Calls Tryd.prog 72 #[pt s a o] w fun e w' => e = .returned (.bool false) ∧ Below w.heap.size w w' := by
  have hB0 : Below w.heap.size w w := Below.refl _ _
  go_enter Tryd.func72, Tryd.ntmps72
  go_wp2_with fail
  refine (within_yes h0 h6 _).mono ?_
  rintro e wx ⟨rfl, rfl⟩
  go_wp2_with fail
  refine (within_yes a0 a2 _).mono ?_
  rintro e wx ⟨rfl, rfl⟩
  go_wp2_with fail
  refine (within_yes o0 o9 _).mono ?_
  rintro e wx ⟨rfl, rfl⟩
  go_wp2_with fail
  have hR' := hR.below (hB0.alloc hB0.size (.cells #[.int .i64 s, .int .i64 a, .int .i64 o] 41))
  refine (number_any _ _ _ _ hR' h0 h6 a0 a2 o0 o9).mono ?_
  rintro e w1 ⟨rfl, hb1⟩
  clear hR'
  have hs1 : Below w.heap.size w w1 := Below.trans (by repeat (first | exact Below.refl _ _ | refine Below.alloc ?_ (by simp <;> omega) _)) (hb1.mono (by simp <;> omega))
  have c_p_0 : w1.cell? ⟨w.heap.size, 0, none⟩ = some (.int .i64 s) := (hb1.cell (by simp <;> omega)).trans (by go_simp)
  have c_p_1 : w1.cell? ⟨w.heap.size, 1, none⟩ = some (.int .i64 a) := (hb1.cell (by simp <;> omega)).trans (by go_simp)
  have c_p_2 : w1.cell? ⟨w.heap.size, 2, none⟩ = some (.int .i64 o) := (hb1.cell (by simp <;> omega)).trans (by go_simp)
  have z_p := World.block_lt_of_cell? _ _ c_p_0
  have hB1 := below_two hB0 hs1
  clear hB0 hs1 hb1
  go_wp2_with fail
  refine (within_no h _).mono ?_
  rintro e wx ⟨rfl, rfl⟩
  go_wp2
  go_ret
  exact ⟨rfl, hB1⟩

set_option maxRecDepth 100000 in
set_option maxHeartbeats 4000000 in
theorem right_5 (s a o : Int) (w : World) (hR : Ready w) (h0 : 0 ≤ s) (h6 : s ≤ 6)(a0 : -2 ≤ a) (a2 : a ≤ 2)(o0 : -1 ≤ o) (o9 : o ≤ 9) (n0 : 0 ≤ Pit.num s a o) (nM : Pit.num s a o ≤ 127) :
    Calls Tryd.prog 72 #[pt s a o] w fun e w' => e = .returned (.bool true) ∧ Below w.heap.size w w' := by
  have hB0 : Below w.heap.size w w := Below.refl _ _
  go_enter Tryd.func72, Tryd.ntmps72
  go_wp2_with fail
  refine (within_yes h0 h6 _).mono ?_
  rintro e wx ⟨rfl, rfl⟩
  go_wp2_with fail
  refine (within_yes a0 a2 _).mono ?_
  rintro e wx ⟨rfl, rfl⟩
  go_wp2_with fail
  refine (within_yes o0 o9 _).mono ?_
  rintro e wx ⟨rfl, rfl⟩
  go_wp2_with fail
  have hR' := hR.below (hB0.alloc hB0.size (.cells #[.int .i64 s, .int .i64 a, .int .i64 o] 41))
  refine (number_any _ _ _ _ hR' h0 h6 a0 a2 o0 o9).mono ?_
  rintro e w1 ⟨rfl, hb1⟩
  clear hR'
  have hs1 : Below w.heap.size w w1 := Below.trans (by repeat (first | exact Below.refl _ _ | refine Below.alloc ?_ (by simp <;> omega) _)) (hb1.mono (by simp <;> omega))
  have c_p_0 : w1.cell? ⟨w.heap.size, 0, none⟩ = some (.int .i64 s) := (hb1.cell (by simp <;> omega)).trans (by go_simp)
  have c_p_1 : w1.cell? ⟨w.heap.size, 1, none⟩ = some (.int .i64 a) := (hb1.cell (by simp <;> omega)).trans (by go_simp)
  have c_p_2 : w1.cell? ⟨w.heap.size, 2, none⟩ = some (.int .i64 o) := (hb1.cell (by simp <;> omega)).trans (by go_simp)
  have z_p := World.block_lt_of_cell? _ _ c_p_0
  have hB1 := below_two hB0 hs1
  clear hB0 hs1 hb1
  go_wp2_with fail
  refine (within_yes n0 nM _).mono ?_
  rintro e wx ⟨rfl, rfl⟩
  go_wp2
  go_ret
  exact ⟨rfl, hB1⟩

theorem right_any (s a o : Int) (w : World) (hR : Ready w) :
    Calls Tryd.prog 72 #[pt s a o] w fun e w' => e = .returned (.bool (Pit.right s a o)) ∧ Below w.heap.size w w' := by
  by_cases h1 : 0 ≤ s ∧ s ≤ 6
  · by_cases h2 : -2 ≤ a ∧ a ≤ 2
    · by_cases h3 : -1 ≤ o ∧ o ≤ 9
      · by_cases h4 : 0 ≤ Pit.num s a o ∧ Pit.num s a o ≤ 127
        · rw [Pit.right_true ⟨h1.1, h1.2, h2.1, h2.2, h3.1, h3.2, h4.1, h4.2⟩]
          exact right_5 s a o w hR h1.1 h1.2 h2.1 h2.2 h3.1 h3.2 h4.1 h4.2
        · rw [Pit.right_false fun h => h4 ⟨h.n0, h.nM⟩]
          exact right_4 s a o w hR h1.1 h1.2 h2.1 h2.2 h3.1 h3.2 h4
      · rw [Pit.right_false fun h => h3 ⟨h.o0, h.o9⟩]
        exact right_3 s a o w h1.1 h1.2 h2.1 h2.2 h3
    · rw [Pit.right_false fun h => h2 ⟨h.a0, h.a2⟩]
      exact right_2 s a o w h1.1 h1.2 h2
  · rw [Pit.right_false fun h => h1 ⟨h.s0, h.s6⟩]
    exact right_1 s a o w h1

theorem right_yes {s a o : Int} (h : Pit.IsRight s a o) (w : World) (hR : Ready w) :
    Calls Tryd.prog 72 #[pt s a o] w fun e w' => e = .returned (.bool true) ∧ Below w.heap.size w w' := by
  have := right_any s a o w hR
  rw [Pit.right_true h] at this
  exact this

theorem right_no {s a o : Int} (h : Pit.right s a o = false) (w : World) (hR : Ready w) :
    Calls Tryd.prog 72 #[pt s a o] w fun e w' => e = .returned (.bool false) ∧ Below w.heap.size w w' := by
  have := right_any s a o w hR
  rw [h] at this
  exact this

theorem number_right {s a o : Int} (h : Pit.IsRight s a o) (w : World) (hR : Ready w) :
    Calls Tryd.prog 86 #[pt s a o] w fun e w' => e = .returned (.int .i64 (Pit.num s a o)) ∧ Below w.heap.size w w' :=
  number_any s a o w hR h.s0 h.s6 h.a0 h.a2 h.o0 h.o9

set_option maxHeartbeats 1000000 in
theorem cmp_any (x y : Int) (w : World) :
    Calls Tryd.prog 34 #[.int .i64 x, .int .i64 y] w fun e w' => e = .returned (.int .i64 (Pit.cmp x y)) ∧ w = w' := by
  rcases Pit.cmp_cases x y with ⟨h, e⟩ | ⟨h, e⟩ | ⟨h, e⟩
  · rw [e]
    have h2 : ¬ y < x := by omega
    go_enter Tryd.func34, Tryd.ntmps34
    go_wp2
    go_ret
    exact ⟨rfl, rfl⟩
  · rw [e]
    subst h
    go_enter Tryd.func34, Tryd.ntmps34
    go_wp2
    go_ret
    exact ⟨rfl, rfl⟩
  · rw [e]
    have h2 : ¬ x < y := by omega
    go_enter Tryd.func34, Tryd.ntmps34
    go_wp2
    go_ret
    exact ⟨rfl, rfl⟩

def orV (x y : Int) : Int := if x = 0 then y else x

theorem orV_1 {x y : Int} (h : x = 0) : orV x y = y := if_pos h

theorem orV_2 {x y : Int} (h : ¬ x = 0) : orV x y = x := if_neg h

def OrRel (x y : Int) (i : Value) : Prop := i = .int .i64 0 ∨ (i = .int .i64 1 ∧ x = 0) ∨ (i = .int .i64 2 ∧ x = 0 ∧ y = 0)

set_option maxRecDepth 100000 in
set_option maxHeartbeats 2000000 in
theorem or_any (x y : Int) (b : Nat) (c : Nat) (w : World) (h0 : w.cell? ⟨b, 0, none⟩ = some (.int .i64 x)) (h1 : w.cell? ⟨b, 1, none⟩ = some (.int .i64 y)) :
    Calls Tryd.prog 87 #[.slice (some ⟨b, 0, none⟩) 2 c] w fun e w' => e = .returned (.int .i64 (orV x y)) ∧ w = w' := by
  go_enter Tryd.func87, Tryd.ntmps87
  go_wp2
  go_loop [8] (OrRel x y) (fun i => 2 - (intOf i).toNat)
  case atStart => exact Or.inl rfl
  case round =>
    rcases hrel with rfl | ⟨rfl, rfl⟩ | ⟨rfl, rfl, rfl⟩
    · by_cases hx : x = 0
      · subst hx
        go_wp2
        exact ⟨Or.inr (Or.inl ⟨rfl, rfl⟩), by simp [intOf]⟩
      · have hx1 : (x != 0) = true := by simp [hx]
        go_wp2
        go_ret
        exact ⟨ret_int (orV_2 hx).symm, rfl⟩
    · by_cases hy : y = 0
      · subst hy
        go_wp2
        exact ⟨Or.inr (Or.inr ⟨rfl, rfl, rfl⟩), by simp [intOf]⟩
      · have hy1 : (y != 0) = true := by simp [hy]
        go_wp2
        go_ret
        exact ⟨ret_int (orV_1 rfl).symm, rfl⟩
    · go_wp2
      go_ret
      exact ⟨ret_int (orV_1 rfl).symm, rfl⟩

theorem new_0 {w : World} {x y : Value} {t : TypeId} : (w.alloc (.cells #[x, y] t)).cell? ⟨w.heap.size, 0, none⟩ = some x := by go_simp

theorem new_1 {w : World} {x y : Value} {t : TypeId} : (w.alloc (.cells #[x, y] t)).cell? ⟨w.heap.size, 1, none⟩ = some y := by go_simp

set_option maxRecDepth 100000 in
set_option maxHeartbeats 4000000 in
theorem compare_no1 (s a o t b p : Int) (w : World) (hR : Ready w) (h : Pit.right s a o = false) :
    Calls Tryd.prog 74 #[pt s a o, pt t b p] w fun e w' => e = .returned (.int .i64 0) ∧ Below w.heap.size w w' := by
  have hB0 : Below w.heap.size w w := Below.refl _ _
  go_enter Tryd.func74, Tryd.ntmps74
  go_wp2_with fail
  have hR' := hR.below ((hB0.alloc hB0.size (.cells #[.int .i64 s, .int .i64 a, .int .i64 o] 41)).alloc (hB0.alloc hB0.size (.cells #[.int .i64 s, .int .i64 a, .int .i64 o] 41)).size (.cells #[.int .i64 t, .int .i64 b, .int .i64 p] 41))
  refine (right_no h _ hR').mono ?_
  rintro e w1 ⟨rfl, hb1⟩
  clear hR'
  have hs1 : Below w.heap.size w w1 := Below.trans (by repeat (first | exact Below.refl _ _ | refine Below.alloc ?_ (by simp <;> omega) _)) (hb1.mono (by simp <;> omega))
  have hB1 := below_two hB0 hs1
  clear hB0 hs1 hb1
  go_wp2
  go_ret
  exact ⟨rfl, hB1⟩

set_option maxRecDepth 100000 in
set_option maxHeartbeats 4000000 in
theorem compare_no2 (s a o t b p : Int) (w : World) (hR : Ready w) (h1 : Pit.IsRight s a o) (h : Pit.right t b p = false) :
    Calls Tryd.prog 74 #[pt s a o, pt t b p] w fun e w' => e = .returned (.int .i64 0) ∧ Below w.heap.size w w' := by
  have hB0 : Below w.heap.size w w := Below.refl _ _
  go_enter Tryd.func74, Tryd.ntmps74
  go_wp2_with fail
  have hR' := hR.below ((hB0.alloc hB0.size (.cells #[.int .i64 s, .int .i64 a, .int .i64 o] 41)).alloc (hB0.alloc hB0.size (.cells #[.int .i64 s, .int .i64 a, .int .i64 o] 41)).size (.cells #[.int .i64 t, .int .i64 b, .int .i64 p] 41))
  refine (right_yes h1 _ hR').mono ?_
  rintro e w1 ⟨rfl, hb1⟩
  clear hR'
  have hs1 : Below w.heap.size w w1 := Below.trans (by repeat (first | exact Below.refl _ _ | refine Below.alloc ?_ (by simp <;> omega) _)) (hb1.mono (by simp <;> omega))
  have c_b_0 : w1.cell? ⟨w.heap.size + 1, 0, none⟩ = some (.int .i64 t) := (hb1.cell (by simp <;> omega)).trans (by go_simp)
  have c_b_1 : w1.cell? ⟨w.heap.size + 1, 1, none⟩ = some (.int .i64 b) := (hb1.cell (by simp <;> omega)).trans (by go_simp)
  have c_b_2 : w1.cell? ⟨w.heap.size + 1, 2, none⟩ = some (.int .i64 p) := (hb1.cell (by simp <;> omega)).trans (by go_simp)
  have z_b := World.block_lt_of_cell? _ _ c_b_0
  have hB1 := below_two hB0 hs1
  clear hB0 hs1 hb1
  go_wp2_with fail
  have hR' := hR.below hB1
  refine (right_no h _ hR').mono ?_
  rintro e w2 ⟨rfl, hb2⟩
  clear hR'
  have hs2 := hb2
  clear c_b_0
  clear c_b_1
  clear c_b_2
  clear z_b
  have hB2 := below_two hB1 hs2
  clear hB1 hs2
  go_wp2
  go_ret
  exact ⟨rfl, hB2⟩

set_option maxRecDepth 100000 in
set_option maxHeartbeats 4000000 in
theorem compare_yes (s a o t b p : Int) (w : World) (hR : Ready w) (h1 : Pit.IsRight s a o) (h2 : Pit.IsRight t b p) :
    Calls Tryd.prog 74 #[pt s a o, pt t b p] w fun e w' => e = .returned (.int .i64 (orV (Pit.cmp (Pit.num s a o) (Pit.num t b p)) (Pit.cmp (Pit.lin s o) (Pit.lin t p)))) ∧ Below w.heap.size w w' := by
  have hB0 : Below w.heap.size w w := Below.refl _ _
  go_enter Tryd.func74, Tryd.ntmps74
  go_wp2_with fail
  have hR' := hR.below ((hB0.alloc hB0.size (.cells #[.int .i64 s, .int .i64 a, .int .i64 o] 41)).alloc (hB0.alloc hB0.size (.cells #[.int .i64 s, .int .i64 a, .int .i64 o] 41)).size (.cells #[.int .i64 t, .int .i64 b, .int .i64 p] 41))
  refine (right_yes h1 _ hR').mono ?_
  rintro e w1 ⟨rfl, hb1⟩
  clear hR'
  have hs1 : Below w.heap.size w w1 := Below.trans (by repeat (first | exact Below.refl _ _ | refine Below.alloc ?_ (by simp <;> omega) _)) (hb1.mono (by simp <;> omega))
  have c_a_0 : w1.cell? ⟨w.heap.size, 0, none⟩ = some (.int .i64 s) := (hb1.cell (by simp <;> omega)).trans (by go_simp)
  have c_a_1 : w1.cell? ⟨w.heap.size, 1, none⟩ = some (.int .i64 a) := (hb1.cell (by simp <;> omega)).trans (by go_simp)
  have c_a_2 : w1.cell? ⟨w.heap.size, 2, none⟩ = some (.int .i64 o) := (hb1.cell (by simp <;> omega)).trans (by go_simp)
  have c_b_0 : w1.cell? ⟨w.heap.size + 1, 0, none⟩ = some (.int .i64 t) := (hb1.cell (by simp <;> omega)).trans (by go_simp)
  have c_b_1 : w1.cell? ⟨w.heap.size + 1, 1, none⟩ = some (.int .i64 b) := (hb1.cell (by simp <;> omega)).trans (by go_simp)
  have c_b_2 : w1.cell? ⟨w.heap.size + 1, 2, none⟩ = some (.int .i64 p) := (hb1.cell (by simp <;> omega)).trans (by go_simp)
  have z_a := World.block_lt_of_cell? _ _ c_a_0
  have z_b := World.block_lt_of_cell? _ _ c_b_0
  have hB1 := below_two hB0 hs1
  clear hB0 hs1 hb1
  go_wp2_with fail
  have hR' := hR.below hB1
  refine (right_yes h2 _ hR').mono ?_
  rintro e w2 ⟨rfl, hb2⟩
  clear hR'
  have hs2 := hb2
  replace c_a_0 := cell_later hs2 c_a_0
  replace c_a_1 := cell_later hs2 c_a_1
  replace c_a_2 := cell_later hs2 c_a_2
  replace c_b_0 := cell_later hs2 c_b_0
  replace c_b_1 := cell_later hs2 c_b_1
  replace c_b_2 := cell_later hs2 c_b_2
  clear z_a
  have z_a := World.block_lt_of_cell? _ _ c_a_0
  clear z_b
  have z_b := World.block_lt_of_cell? _ _ c_b_0
  have hB2 := below_two hB1 hs2
  clear hB1 hs2
  go_wp2_with fail
  go_region_held3 (fun w' => w'.cell? ⟨w.heap.size, 0, none⟩ = some (.int .i64 s) ∧ w'.cell? ⟨w.heap.size, 1, none⟩ = some (.int .i64 a) ∧ w'.cell? ⟨w.heap.size, 2, none⟩ = some (.int .i64 o) ∧ w'.cell? ⟨w.heap.size + 1, 0, none⟩ = some (.int .i64 t) ∧ w'.cell? ⟨w.heap.size + 1, 1, none⟩ = some (.int .i64 b) ∧ w'.cell? ⟨w.heap.size + 1, 2, none⟩ = some (.int .i64 p) ∧ Below w.heap.size w w')
    (((try go_split_ands); refine ⟨?_, ?_, ?_, ?_, ?_, ?_, ?_⟩ <;> first | with_reducible assumption | (with_reducible refine cell_later hq ?_; with_reducible assumption) | (with_reducible refine below_two ?_ hq; with_reducible assumption) | (with_reducible refine alloc_cell ?_; with_reducible assumption) | (with_reducible refine alloc_below ?_; with_reducible assumption) | with_reducible exact cell_drew c_a_0 | with_reducible exact cell_drew c_a_1 | with_reducible exact cell_drew c_a_2 | with_reducible exact cell_drew c_b_0 | with_reducible exact cell_drew c_b_1 | with_reducible exact cell_drew c_b_2 | with_reducible exact hB2.drew))
    (first
      | (go_at_call 88; refine (line_any _ _ _ _ ?_).mono ?_; (first | exact h1 | exact h2); rintro e w3 ⟨rfl, hq⟩)
      | (go_at_call 86; (try go_split_ands); refine (number_right ?_ _ (hR.below ?_)).mono ?_; (first | exact h1 | exact h2); assumption; rintro e w3 ⟨rfl, hq⟩)
      | (go_at_call 34; refine (cmp_any _ _ _).mono ?_; rintro e w3 ⟨rfl, rfl⟩)
      | (go_at_call 87; refine (or_any _ _ _ _ _ new_0 new_1).mono ?_; rintro e w3 ⟨rfl, rfl⟩))
  rename_i hS
  clear c_a_0 c_a_1 c_a_2 c_b_0 c_b_1 c_b_2 hB2 z_a z_b
  obtain ⟨c_a_0, c_a_1, c_a_2, c_b_0, c_b_1, c_b_2, hB3⟩ := hS
  have z_a := World.block_lt_of_cell? _ _ c_a_0
  have z_b := World.block_lt_of_cell? _ _ c_b_0
  go_wp2
  go_ret
  exact ⟨rfl, hB3⟩

theorem compare_any (s a o t b p : Int) (w : World) (hR : Ready w) :
    Calls Tryd.prog 74 #[pt s a o, pt t b p] w fun e w' => e = .returned (.int .i64 (Pit.cmpP (Pit.right s a o && Pit.right t b p) s a o t b p)) ∧ Below w.heap.size w w' := by
  cases h1 : Pit.right s a o
  · exact compare_no1 s a o t b p w hR h1
  · cases h2 : Pit.right t b p
    · exact compare_no2 s a o t b p w hR ((Pit.right_iff _ _ _).1 h1) h2
    · exact compare_yes s a o t b p w hR ((Pit.right_iff _ _ _).1 h1) ((Pit.right_iff _ _ _).1 h2)

/-- Are two pitches, two intervals the same, field by field? -/
def eqP (s a o t b p : Int) : Bool := s == t && (a == b && o == p)

theorem eqP_iff (s a o t b p : Int) : eqP s a o t b p = true ↔ s = t ∧ a = b ∧ o = p := by unfold eqP; simp

theorem eqP_self (s a o : Int) : eqP s a o s a o = true := (eqP_iff _ _ _ _ _ _).2 ⟨rfl, rfl, rfl⟩

theorem guardP : Tryd.prog.eqGuardType Tryd.prog.depth 41 = false := by kernel_rfl

theorem eql_pt (s a o t b p : Int) (w : World) : (binOp .eql 41 (pt s a o) (pt t b p)).run Tryd.prog w = .ok (.bool (eqP s a o t b p)) w := by
  have u3 := Tryd.underlying3
  have a3 := Tryd.isAgg3
  have z3 := Tryd.sizeOf3
  have hS : Tryd.prog.underlying 41 = some (.struct (Tryd.prog.fieldsOf 41)) := by kernel_rfl
  have hp : Tryd.prog.stoodInHeld 41 = false := by kernel_rfl
  rw [run_eql_struct, show (10000 : Nat) = 9999 + 1 from rfl, run_equalIn_agg w 9999 41 _ _ hS hp]
  simp only [Program.fieldsOf, Tryd.underlying41]
  go_simp
  unfold eqP
  by_cases h1 : s = t <;> by_cases h2 : a = b <;> by_cases h3 : o = p <;> simp [h1, h2, h3]

theorem neq_pt (s a o t b p : Int) (w : World) : (binOp .neq 41 (pt s a o) (pt t b p)).run Tryd.prog w = .ok (.bool (!eqP s a o t b p)) w := by
  have u3 := Tryd.underlying3
  have a3 := Tryd.isAgg3
  have z3 := Tryd.sizeOf3
  have hS : Tryd.prog.underlying 41 = some (.struct (Tryd.prog.fieldsOf 41)) := by kernel_rfl
  have hp : Tryd.prog.stoodInHeld 41 = false := by kernel_rfl
  rw [run_neq_struct, show (10000 : Nat) = 9999 + 1 from rfl, run_equalIn_agg w 9999 41 _ _ hS hp]
  simp only [Program.fieldsOf, Tryd.underlying41]
  go_simp
  unfold eqP
  by_cases h1 : s = t <;> by_cases h2 : a = b <;> by_cases h3 : o = p <;> simp [h1, h2, h3]
end Go.Proofs.YtobhmiknlbjmkaaDoor
