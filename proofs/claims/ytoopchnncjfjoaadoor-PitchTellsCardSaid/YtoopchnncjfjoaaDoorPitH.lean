/-
  The contracts of pick, of the reference's half and Right, and of Pitch: of raw numbers, a right pitch.
-/
import Derived.Test.YtoopchnncjfjoaaDoorPitA
namespace Go.Proofs.YtoopchnncjfjoaaDoor
open Go.RowKit

/-- Which of n things a raw number speaks of. -/
def pickS (c n : Int) : Int := (if c < 0 then -(c + 1) else c) % n
theorem pickS_bounds (c : Int) {n : Int} (h : 1 ≤ n) : 0 ≤ pickS c n ∧ pickS c n < n := by
  unfold pickS; exact ⟨Int.emod_nonneg _ (by omega), Int.emod_lt_of_pos _ (by omega)⟩
theorem pick_neg {c : Int} (h : Pit.I64 c) (hc : c < 0) : wrap64 (-wrap64 (c + 1)) = -(c + 1) := by unfold Pit.I64 at h; unfold wrap64; omega
theorem pick_in {c : Int} (h : Pit.I64 c) (hc : c < 0) : 0 ≤ -(c + 1) := by unfold Pit.I64 at *; omega
theorem mod_walk {x n : Int} (h0 : 0 ≤ x) (hn : 1 ≤ n) (hn2 : n ≤ 2000001) : wrap64 (x.tmod n) = x % n := by
  rw [Int.tmod_eq_emod_of_nonneg h0]
  have a := Int.emod_nonneg x (show n ≠ 0 by omega)
  have b := Int.emod_lt_of_pos x (show 0 < n by omega)
  unfold wrap64; omega

set_option maxHeartbeats 1000000 in
theorem pick_any (c n : Int) (w : World) (hc : Pit.I64 c) (hn : 1 ≤ n) (hn2 : n ≤ 2000001) :
    Calls Tryd.prog 22 #[.int .i64 c, .int .i64 n] w fun e w' => e = .returned (.int .i64 (pickS c n)) ∧ w = w' := by
  have hz : (n == 0) = false := by simp; omega
  by_cases h : c < 0
  · have hx := pick_neg hc h
    have h0 := pick_in hc h
    have hm := mod_walk h0 hn hn2
    have HP : Hid (pickS c n = -(c + 1) % n) := Lib.hid (by unfold pickS; rw [if_pos h])
    generalize -(c + 1) = x at *
    go_enter Tryd.func22, Tryd.ntmps22
    go_wp2
    go_ret
    refine ⟨ret_int ?_, rfl⟩
    rw [HP.out]
  · have h0 : 0 ≤ c := by omega
    have hm := mod_walk h0 hn hn2
    have HP : Hid (pickS c n = c % n) := Lib.hid (by unfold pickS; rw [if_neg h])
    go_enter Tryd.func22, Tryd.ntmps22
    go_wp2
    go_ret
    refine ⟨ret_int ?_, rfl⟩
    rw [HP.out]

set_option maxHeartbeats 1000000 in
theorem half_any (s : Int) (w : World) (h0 : 0 ≤ s) (h6 : s ≤ 6) :
    Calls Tryd.prog 32 #[.int .i64 s] w fun e w' => e = .returned (.int .i64 (Pit.hv s)) ∧ w = w' := by
  rcases Pit.hv_cases s with ⟨h, e⟩ | ⟨h, e⟩
  · rw [e]
    go_enter Tryd.func32, Tryd.ntmps32
    go_wp2
    go_ret
    exact ⟨rfl, rfl⟩
  · rw [e]
    have h' : ¬ s < 3 := by omega
    go_enter Tryd.func32, Tryd.ntmps32
    go_wp2
    go_ret
    exact ⟨rfl, rfl⟩

set_option maxRecDepth 100000 in
set_option maxHeartbeats 4000000 in
theorem refRight_1 (s a o : Int) (w : World) (h : s < 0) :
    Calls Tryd.prog 21 #[pt s a o] w fun e w' => e = .returned (.bool false) ∧ Below w.heap.size w w' := by
  go_enter Tryd.func21, Tryd.ntmps21
  go_wp2
  go_ret
  exact ⟨rfl, (by repeat (first | exact Below.refl _ _ | refine below_drewN ?_ _ | refine Below.drew ?_ | refine Below.setCell ?_ (by simp <;> omega) _ | refine Below.alloc ?_ (by simp <;> omega) _))⟩

set_option maxRecDepth 100000 in
set_option maxHeartbeats 4000000 in
theorem refRight_2 (s a o : Int) (w : World) (h0 : 0 ≤ s) (h : 6 < s) :
    Calls Tryd.prog 21 #[pt s a o] w fun e w' => e = .returned (.bool false) ∧ Below w.heap.size w w' := by
  go_enter Tryd.func21, Tryd.ntmps21
  go_wp2
  go_ret
  exact ⟨rfl, (by repeat (first | exact Below.refl _ _ | refine below_drewN ?_ _ | refine Below.drew ?_ | refine Below.setCell ?_ (by simp <;> omega) _ | refine Below.alloc ?_ (by simp <;> omega) _))⟩

set_option maxRecDepth 100000 in
set_option maxHeartbeats 4000000 in
theorem refRight_3 (s a o : Int) (w : World) (h0 : 0 ≤ s) (h6 : s ≤ 6) (h : a < -2) :
    Calls Tryd.prog 21 #[pt s a o] w fun e w' => e = .returned (.bool false) ∧ Below w.heap.size w w' := by
  go_enter Tryd.func21, Tryd.ntmps21
  go_wp2
  go_ret
  exact ⟨rfl, (by repeat (first | exact Below.refl _ _ | refine below_drewN ?_ _ | refine Below.drew ?_ | refine Below.setCell ?_ (by simp <;> omega) _ | refine Below.alloc ?_ (by simp <;> omega) _))⟩

set_option maxRecDepth 100000 in
set_option maxHeartbeats 4000000 in
theorem refRight_4 (s a o : Int) (w : World) (h0 : 0 ≤ s) (h6 : s ≤ 6) (a0 : -2 ≤ a) (h : 2 < a) :
    Calls Tryd.prog 21 #[pt s a o] w fun e w' => e = .returned (.bool false) ∧ Below w.heap.size w w' := by
  go_enter Tryd.func21, Tryd.ntmps21
  go_wp2
  go_ret
  exact ⟨rfl, (by repeat (first | exact Below.refl _ _ | refine below_drewN ?_ _ | refine Below.drew ?_ | refine Below.setCell ?_ (by simp <;> omega) _ | refine Below.alloc ?_ (by simp <;> omega) _))⟩

set_option maxRecDepth 100000 in
set_option maxHeartbeats 4000000 in
theorem refRight_5 (s a o : Int) (w : World) (h0 : 0 ≤ s) (h6 : s ≤ 6) (a0 : -2 ≤ a) (a2 : a ≤ 2) (h : o < -1) :
    Calls Tryd.prog 21 #[pt s a o] w fun e w' => e = .returned (.bool false) ∧ Below w.heap.size w w' := by
  go_enter Tryd.func21, Tryd.ntmps21
  go_wp2
  go_ret
  exact ⟨rfl, (by repeat (first | exact Below.refl _ _ | refine below_drewN ?_ _ | refine Below.drew ?_ | refine Below.setCell ?_ (by simp <;> omega) _ | refine Below.alloc ?_ (by simp <;> omega) _))⟩

set_option maxRecDepth 100000 in
set_option maxHeartbeats 4000000 in
theorem refRight_6 (s a o : Int) (w : World) (h0 : 0 ≤ s) (h6 : s ≤ 6) (a0 : -2 ≤ a) (a2 : a ≤ 2) (o0 : -1 ≤ o) (h : 9 < o) :
    Calls Tryd.prog 21 #[pt s a o] w fun e w' => e = .returned (.bool false) ∧ Below w.heap.size w w' := by
  go_enter Tryd.func21, Tryd.ntmps21
  go_wp2
  go_ret
  exact ⟨rfl, (by repeat (first | exact Below.refl _ _ | refine below_drewN ?_ _ | refine Below.drew ?_ | refine Below.setCell ?_ (by simp <;> omega) _ | refine Below.alloc ?_ (by simp <;> omega) _))⟩

set_option maxRecDepth 100000 in
set_option maxHeartbeats 4000000 in
theorem refRight_7 (s a o : Int) (w : World) (h0 : 0 ≤ s) (h6 : s ≤ 6) (a0 : -2 ≤ a) (a2 : a ≤ 2) (o0 : -1 ≤ o) (o9 : o ≤ 9) (v N : Int) (HV : Hid (Pit.hv s = v)) (hN : IntKind.i64.wrap (IntKind.i64.wrap (IntKind.i64.wrap (12 * IntKind.i64.wrap (o + 1)) + v) + a) = N) (h : N < 0) :
    Calls Tryd.prog 21 #[pt s a o] w fun e w' => e = .returned (.bool false) ∧ Below w.heap.size w w' := by
  have hB0 : Below w.heap.size w w := Below.refl _ _
  go_enter Tryd.func21, Tryd.ntmps21
  go_wp2_with fail
  have hs1 : Below w.heap.size w (w.alloc (.cells #[.int .i64 s, .int .i64 a, .int .i64 o] 23)) := by repeat (first | exact Below.refl _ _ | refine Below.alloc ?_ (by simp <;> omega) _)
  have c_p_0 : (w.alloc (.cells #[.int .i64 s, .int .i64 a, .int .i64 o] 23)).cell? ⟨w.heap.size, 0, none⟩ = some (.int .i64 s) := by go_simp
  have c_p_1 : (w.alloc (.cells #[.int .i64 s, .int .i64 a, .int .i64 o] 23)).cell? ⟨w.heap.size, 1, none⟩ = some (.int .i64 a) := by go_simp
  have c_p_2 : (w.alloc (.cells #[.int .i64 s, .int .i64 a, .int .i64 o] 23)).cell? ⟨w.heap.size, 2, none⟩ = some (.int .i64 o) := by go_simp
  have hB1 := below_two hB0 hs1
  clear hB0 hs1
  generalize (w.alloc (.cells #[.int .i64 s, .int .i64 a, .int .i64 o] 23)) = w1 at *
  have z_p := World.block_lt_of_cell? _ _ c_p_0
  go_region_held3 (fun w' => w'.cell? ⟨w.heap.size, 0, none⟩ = some (.int .i64 s) ∧ w'.cell? ⟨w.heap.size, 1, none⟩ = some (.int .i64 a) ∧ w'.cell? ⟨w.heap.size, 2, none⟩ = some (.int .i64 o) ∧ Below w.heap.size w w')
    (((try go_split_ands); refine ⟨?_, ?_, ?_, ?_⟩ <;> first | with_reducible assumption | (with_reducible refine cell_later hq ?_; with_reducible assumption) | (with_reducible refine below_two ?_ hq; with_reducible assumption) | with_reducible exact cell_drew c_p_0 | with_reducible exact cell_drew c_p_1 | with_reducible exact cell_drew c_p_2 | with_reducible exact hB1.drew))
    (first
      | (go_at_call 32; refine (half_any _ _ h0 h6).mono ?_; rintro e w2 ⟨rfl, rfl⟩; rw [HV.out]))
  rename_i hS
  clear c_p_0 c_p_1 c_p_2 hB1 z_p
  obtain ⟨c_p_0, c_p_1, c_p_2, hB2⟩ := hS
  have z_p := World.block_lt_of_cell? _ _ c_p_0
  go_wp2
  go_ret
  exact ⟨rfl, hB2⟩

set_option maxRecDepth 100000 in
set_option maxHeartbeats 4000000 in
theorem refRight_8 (s a o : Int) (w : World) (h0 : 0 ≤ s) (h6 : s ≤ 6) (a0 : -2 ≤ a) (a2 : a ≤ 2) (o0 : -1 ≤ o) (o9 : o ≤ 9) (v N : Int) (HV : Hid (Pit.hv s = v)) (hN : IntKind.i64.wrap (IntKind.i64.wrap (IntKind.i64.wrap (12 * IntKind.i64.wrap (o + 1)) + v) + a) = N) (h1 : 0 ≤ N) (h : 127 < N) :
    Calls Tryd.prog 21 #[pt s a o] w fun e w' => e = .returned (.bool false) ∧ Below w.heap.size w w' := by
  have hB0 : Below w.heap.size w w := Below.refl _ _
  go_enter Tryd.func21, Tryd.ntmps21
  go_wp2_with fail
  have hs1 : Below w.heap.size w (w.alloc (.cells #[.int .i64 s, .int .i64 a, .int .i64 o] 23)) := by repeat (first | exact Below.refl _ _ | refine Below.alloc ?_ (by simp <;> omega) _)
  have c_p_0 : (w.alloc (.cells #[.int .i64 s, .int .i64 a, .int .i64 o] 23)).cell? ⟨w.heap.size, 0, none⟩ = some (.int .i64 s) := by go_simp
  have c_p_1 : (w.alloc (.cells #[.int .i64 s, .int .i64 a, .int .i64 o] 23)).cell? ⟨w.heap.size, 1, none⟩ = some (.int .i64 a) := by go_simp
  have c_p_2 : (w.alloc (.cells #[.int .i64 s, .int .i64 a, .int .i64 o] 23)).cell? ⟨w.heap.size, 2, none⟩ = some (.int .i64 o) := by go_simp
  have hB1 := below_two hB0 hs1
  clear hB0 hs1
  generalize (w.alloc (.cells #[.int .i64 s, .int .i64 a, .int .i64 o] 23)) = w1 at *
  have z_p := World.block_lt_of_cell? _ _ c_p_0
  go_region_held3 (fun w' => w'.cell? ⟨w.heap.size, 0, none⟩ = some (.int .i64 s) ∧ w'.cell? ⟨w.heap.size, 1, none⟩ = some (.int .i64 a) ∧ w'.cell? ⟨w.heap.size, 2, none⟩ = some (.int .i64 o) ∧ Below w.heap.size w w')
    (((try go_split_ands); refine ⟨?_, ?_, ?_, ?_⟩ <;> first | with_reducible assumption | (with_reducible refine cell_later hq ?_; with_reducible assumption) | (with_reducible refine below_two ?_ hq; with_reducible assumption) | with_reducible exact cell_drew c_p_0 | with_reducible exact cell_drew c_p_1 | with_reducible exact cell_drew c_p_2 | with_reducible exact hB1.drew))
    (first
      | (go_at_call 32; refine (half_any _ _ h0 h6).mono ?_; rintro e w2 ⟨rfl, rfl⟩; rw [HV.out]))
  rename_i hS
  clear c_p_0 c_p_1 c_p_2 hB1 z_p
  obtain ⟨c_p_0, c_p_1, c_p_2, hB2⟩ := hS
  have z_p := World.block_lt_of_cell? _ _ c_p_0
  go_wp2
  go_ret
  exact ⟨ret_bool (decide_eq_false (by omega)), hB2⟩

set_option maxRecDepth 100000 in
set_option maxHeartbeats 4000000 in
theorem refRight_9 (s a o : Int) (w : World) (h0 : 0 ≤ s) (h6 : s ≤ 6) (a0 : -2 ≤ a) (a2 : a ≤ 2) (o0 : -1 ≤ o) (o9 : o ≤ 9) (v N : Int) (HV : Hid (Pit.hv s = v)) (hN : IntKind.i64.wrap (IntKind.i64.wrap (IntKind.i64.wrap (12 * IntKind.i64.wrap (o + 1)) + v) + a) = N) (h1 : 0 ≤ N) (h : N ≤ 127) :
    Calls Tryd.prog 21 #[pt s a o] w fun e w' => e = .returned (.bool true) ∧ Below w.heap.size w w' := by
  have hB0 : Below w.heap.size w w := Below.refl _ _
  go_enter Tryd.func21, Tryd.ntmps21
  go_wp2_with fail
  have hs1 : Below w.heap.size w (w.alloc (.cells #[.int .i64 s, .int .i64 a, .int .i64 o] 23)) := by repeat (first | exact Below.refl _ _ | refine Below.alloc ?_ (by simp <;> omega) _)
  have c_p_0 : (w.alloc (.cells #[.int .i64 s, .int .i64 a, .int .i64 o] 23)).cell? ⟨w.heap.size, 0, none⟩ = some (.int .i64 s) := by go_simp
  have c_p_1 : (w.alloc (.cells #[.int .i64 s, .int .i64 a, .int .i64 o] 23)).cell? ⟨w.heap.size, 1, none⟩ = some (.int .i64 a) := by go_simp
  have c_p_2 : (w.alloc (.cells #[.int .i64 s, .int .i64 a, .int .i64 o] 23)).cell? ⟨w.heap.size, 2, none⟩ = some (.int .i64 o) := by go_simp
  have hB1 := below_two hB0 hs1
  clear hB0 hs1
  generalize (w.alloc (.cells #[.int .i64 s, .int .i64 a, .int .i64 o] 23)) = w1 at *
  have z_p := World.block_lt_of_cell? _ _ c_p_0
  go_region_held3 (fun w' => w'.cell? ⟨w.heap.size, 0, none⟩ = some (.int .i64 s) ∧ w'.cell? ⟨w.heap.size, 1, none⟩ = some (.int .i64 a) ∧ w'.cell? ⟨w.heap.size, 2, none⟩ = some (.int .i64 o) ∧ Below w.heap.size w w')
    (((try go_split_ands); refine ⟨?_, ?_, ?_, ?_⟩ <;> first | with_reducible assumption | (with_reducible refine cell_later hq ?_; with_reducible assumption) | (with_reducible refine below_two ?_ hq; with_reducible assumption) | with_reducible exact cell_drew c_p_0 | with_reducible exact cell_drew c_p_1 | with_reducible exact cell_drew c_p_2 | with_reducible exact hB1.drew))
    (first
      | (go_at_call 32; refine (half_any _ _ h0 h6).mono ?_; rintro e w2 ⟨rfl, rfl⟩; rw [HV.out]))
  rename_i hS
  clear c_p_0 c_p_1 c_p_2 hB1 z_p
  obtain ⟨c_p_0, c_p_1, c_p_2, hB2⟩ := hS
  have z_p := World.block_lt_of_cell? _ _ c_p_0
  go_wp2
  go_ret
  exact ⟨rfl, hB2⟩

theorem refRight_any (s a o : Int) (w : World) :
    Calls Tryd.prog 21 #[pt s a o] w fun e w' => e = .returned (.bool (Pit.right s a o)) ∧ Below w.heap.size w w' := by
  by_cases h1 : s < 0
  · rw [Pit.right_false fun h => by have := h.s0; omega]; exact refRight_1 s a o w h1
  by_cases h2 : 6 < s
  · rw [Pit.right_false fun h => by have := h.s6; omega]; exact refRight_2 s a o w (by omega) h2
  by_cases h3 : a < -2
  · rw [Pit.right_false fun h => by have := h.a0; omega]; exact refRight_3 s a o w (by omega) (by omega) h3
  by_cases h4 : 2 < a
  · rw [Pit.right_false fun h => by have := h.a2; omega]; exact refRight_4 s a o w (by omega) (by omega) (by omega) h4
  by_cases h5 : o < -1
  · rw [Pit.right_false fun h => by have := h.o0; omega]; exact refRight_5 s a o w (by omega) (by omega) (by omega) (by omega) h5
  by_cases h6 : 9 < o
  · rw [Pit.right_false fun h => by have := h.o9; omega]; exact refRight_6 s a o w (by omega) (by omega) (by omega) (by omega) (by omega) h6
  have hv : -20 ≤ Pit.hv s ∧ Pit.hv s ≤ 20 := by rcases Pit.hv_cases s with ⟨_, e⟩ | ⟨_, e⟩ <;> omega
  have hN : IntKind.i64.wrap (IntKind.i64.wrap (IntKind.i64.wrap (12 * IntKind.i64.wrap (o + 1)) + Pit.hv s) + a) = Pit.num s a o := by
    rw [IntWalk.i64_in (o + 1) (by omega), IntWalk.i64_in (12 * (o + 1)) (by omega), IntWalk.i64_in (12 * (o + 1) + Pit.hv s) (by omega), IntWalk.i64_in _ (by omega)]
    rfl
  by_cases h7 : Pit.num s a o < 0
  · rw [Pit.right_false fun h => by have := h.n0; omega]
    exact refRight_7 s a o w (by omega) (by omega) (by omega) (by omega) (by omega) (by omega) _ _ (Lib.hid rfl) hN h7
  by_cases h8 : 127 < Pit.num s a o
  · rw [Pit.right_false fun h => by have := h.nM; omega]
    exact refRight_8 s a o w (by omega) (by omega) (by omega) (by omega) (by omega) (by omega) _ _ (Lib.hid rfl) hN (by omega) h8
  · rw [Pit.right_true ⟨by omega, by omega, by omega, by omega, by omega, by omega, by omega, by omega⟩]
    exact refRight_9 s a o w (by omega) (by omega) (by omega) (by omega) (by omega) (by omega) _ _ (Lib.hid rfl) hN (by omega) (by omega)

set_option maxRecDepth 100000 in
set_option maxHeartbeats 4000000 in
theorem pitch_no (s a o : Int) (w : World) (hs : Pit.I64 s) (ha : Pit.I64 a) (ho : Pit.I64 o) (x y z b c : Int) (HX : Hid (pickS s 7 = x)) (HY : Hid (pickS a 5 = y)) (HZ : Hid (pickS o 11 = z)) (hb : IntKind.i64.wrap (y - 2) = b) (hc : IntKind.i64.wrap (z - 1) = c) (hr : Pit.right x b c = false) :
    Calls Tryd.prog 13 #[pt s a o] w fun e w' => e = .returned (pt x b 4) ∧ Below w.heap.size w w' := by
  have hB0 : Below w.heap.size w w := Below.refl _ _
  go_enter Tryd.func13, Tryd.ntmps13
  go_wp2_with fail
  have hs1 : Below w.heap.size w ((w.alloc (.cells #[.int .i64 s, .int .i64 a, .int .i64 o] 23)).alloc (.cells #[.int .i64 0, .int .i64 0, .int .i64 0] 23)) := by repeat (first | exact Below.refl _ _ | refine Below.alloc ?_ (by simp <;> omega) _)
  have c_p_0 : ((w.alloc (.cells #[.int .i64 s, .int .i64 a, .int .i64 o] 23)).alloc (.cells #[.int .i64 0, .int .i64 0, .int .i64 0] 23)).cell? ⟨w.heap.size, 0, none⟩ = some (.int .i64 s) := by go_simp
  have c_p_1 : ((w.alloc (.cells #[.int .i64 s, .int .i64 a, .int .i64 o] 23)).alloc (.cells #[.int .i64 0, .int .i64 0, .int .i64 0] 23)).cell? ⟨w.heap.size, 1, none⟩ = some (.int .i64 a) := by go_simp
  have c_p_2 : ((w.alloc (.cells #[.int .i64 s, .int .i64 a, .int .i64 o] 23)).alloc (.cells #[.int .i64 0, .int .i64 0, .int .i64 0] 23)).cell? ⟨w.heap.size, 2, none⟩ = some (.int .i64 o) := by go_simp
  have c_r_0 : ((w.alloc (.cells #[.int .i64 s, .int .i64 a, .int .i64 o] 23)).alloc (.cells #[.int .i64 0, .int .i64 0, .int .i64 0] 23)).cell? ⟨w.heap.size + 1, 0, none⟩ = some (.int .i64 0) := by go_simp
  have f_r_0 : ((w.alloc (.cells #[.int .i64 s, .int .i64 a, .int .i64 o] 23)).alloc (.cells #[.int .i64 0, .int .i64 0, .int .i64 0] 23)).frozen? ⟨w.heap.size + 1, 0, none⟩ = false := by go_simp
  have c_r_1 : ((w.alloc (.cells #[.int .i64 s, .int .i64 a, .int .i64 o] 23)).alloc (.cells #[.int .i64 0, .int .i64 0, .int .i64 0] 23)).cell? ⟨w.heap.size + 1, 1, none⟩ = some (.int .i64 0) := by go_simp
  have f_r_1 : ((w.alloc (.cells #[.int .i64 s, .int .i64 a, .int .i64 o] 23)).alloc (.cells #[.int .i64 0, .int .i64 0, .int .i64 0] 23)).frozen? ⟨w.heap.size + 1, 1, none⟩ = false := by go_simp
  have c_r_2 : ((w.alloc (.cells #[.int .i64 s, .int .i64 a, .int .i64 o] 23)).alloc (.cells #[.int .i64 0, .int .i64 0, .int .i64 0] 23)).cell? ⟨w.heap.size + 1, 2, none⟩ = some (.int .i64 0) := by go_simp
  have f_r_2 : ((w.alloc (.cells #[.int .i64 s, .int .i64 a, .int .i64 o] 23)).alloc (.cells #[.int .i64 0, .int .i64 0, .int .i64 0] 23)).frozen? ⟨w.heap.size + 1, 2, none⟩ = false := by go_simp
  have hB1 := below_two hB0 hs1
  clear hB0 hs1
  generalize ((w.alloc (.cells #[.int .i64 s, .int .i64 a, .int .i64 o] 23)).alloc (.cells #[.int .i64 0, .int .i64 0, .int .i64 0] 23)) = w1 at *
  have z_p := World.block_lt_of_cell? _ _ c_p_0
  have z_r := World.block_lt_of_cell? _ _ c_r_0
  go_region_held3 (fun w' => w'.cell? ⟨w.heap.size, 0, none⟩ = some (.int .i64 s) ∧ w'.cell? ⟨w.heap.size, 1, none⟩ = some (.int .i64 a) ∧ w'.cell? ⟨w.heap.size, 2, none⟩ = some (.int .i64 o) ∧ w'.cell? ⟨w.heap.size + 1, 0, none⟩ = some (.int .i64 0) ∧ w'.frozen? ⟨w.heap.size + 1, 0, none⟩ = false ∧ w'.cell? ⟨w.heap.size + 1, 1, none⟩ = some (.int .i64 0) ∧ w'.frozen? ⟨w.heap.size + 1, 1, none⟩ = false ∧ w'.cell? ⟨w.heap.size + 1, 2, none⟩ = some (.int .i64 0) ∧ w'.frozen? ⟨w.heap.size + 1, 2, none⟩ = false ∧ Below w.heap.size w w')
    (((try go_split_ands); refine ⟨?_, ?_, ?_, ?_, ?_, ?_, ?_, ?_, ?_, ?_⟩ <;> first | with_reducible assumption | (with_reducible refine cell_later hq ?_; with_reducible assumption) | (with_reducible refine below_two ?_ hq; with_reducible assumption) | (with_reducible refine frozen_later (v := ?_) hq ?_ ?_; rotate_left; with_reducible assumption; with_reducible assumption) | (with_reducible refine cell_drew (alloc_cell ?_); with_reducible assumption) | (with_reducible refine frozen_drew (alloc_frozen (v := ?_) ?_ ?_); rotate_left; with_reducible assumption; with_reducible assumption) | (with_reducible refine Below.drew (alloc_below ?_); with_reducible assumption) | with_reducible exact cell_drew c_p_0 | with_reducible exact cell_drew c_p_1 | with_reducible exact cell_drew c_p_2 | with_reducible exact cell_drew c_r_0 | with_reducible exact frozen_drew f_r_0 | with_reducible exact cell_drew c_r_1 | with_reducible exact frozen_drew f_r_1 | with_reducible exact cell_drew c_r_2 | with_reducible exact frozen_drew f_r_2 | with_reducible exact hB1.drew))
    (first
      | (go_at_call 22; refine (pick_any _ _ _ ?_ ?_ ?_).mono ?_; (first | exact hs | exact ha | exact ho); decide; decide; rintro e w2 ⟨rfl, rfl⟩; (first | rw [HX.out] | rw [HY.out] | rw [HZ.out])))
  all_goals
    have hs2 : Below w1.heap.size w1 (w1.alloc (.cells #[.int .i64 x, .int .i64 b, .int .i64 c] 23)).drew := ((Below.refl _ _).alloc (Nat.le_refl _) _).drew
    have n_r_0 := cell_later hs2 c_r_0
    have m_r_0 := frozen_later hs2 c_r_0 f_r_0
    have n_r_1 := cell_later hs2 c_r_1
    have m_r_1 := frozen_later hs2 c_r_1 f_r_1
    have n_r_2 := cell_later hs2 c_r_2
    have m_r_2 := frozen_later hs2 c_r_2 f_r_2
    have n_q_0 : (w1.alloc (.cells #[.int .i64 x, .int .i64 b, .int .i64 c] 23)).drew.cell? ⟨w1.heap.size, 0, none⟩ = some (.int .i64 x) := by go_simp
    have m_q_0 : (w1.alloc (.cells #[.int .i64 x, .int .i64 b, .int .i64 c] 23)).drew.frozen? ⟨w1.heap.size, 0, none⟩ = false := by go_simp
    have n_q_1 : (w1.alloc (.cells #[.int .i64 x, .int .i64 b, .int .i64 c] 23)).drew.cell? ⟨w1.heap.size, 1, none⟩ = some (.int .i64 b) := by go_simp
    have m_q_1 : (w1.alloc (.cells #[.int .i64 x, .int .i64 b, .int .i64 c] 23)).drew.frozen? ⟨w1.heap.size, 1, none⟩ = false := by go_simp
    have n_q_2 : (w1.alloc (.cells #[.int .i64 x, .int .i64 b, .int .i64 c] 23)).drew.cell? ⟨w1.heap.size, 2, none⟩ = some (.int .i64 c) := by go_simp
    have m_q_2 : (w1.alloc (.cells #[.int .i64 x, .int .i64 b, .int .i64 c] 23)).drew.frozen? ⟨w1.heap.size, 2, none⟩ = false := by go_simp
    have hB2 := below_two hB1 hs2
    have y_r := World.block_lt_of_cell? _ _ c_r_0
    clear c_p_0 c_p_1 c_p_2 c_r_0 c_r_1 c_r_2 f_r_0 f_r_1 f_r_2 z_p z_r hB1 hs2
    generalize (w1.alloc (.cells #[.int .i64 x, .int .i64 b, .int .i64 c] 23)).drew = w2 at *
    go_wp2_with fail
    refine (refRight_any _ _ _ _).mono ?_
    rintro e w3 ⟨rfl, hb3⟩
    have hs3 := hb3
    replace m_r_0 := frozen_later hs3 n_r_0 m_r_0
    replace n_r_0 := cell_later hs3 n_r_0
    replace m_r_1 := frozen_later hs3 n_r_1 m_r_1
    replace n_r_1 := cell_later hs3 n_r_1
    replace m_r_2 := frozen_later hs3 n_r_2 m_r_2
    replace n_r_2 := cell_later hs3 n_r_2
    replace m_q_0 := frozen_later hs3 n_q_0 m_q_0
    replace n_q_0 := cell_later hs3 n_q_0
    replace m_q_1 := frozen_later hs3 n_q_1 m_q_1
    replace n_q_1 := cell_later hs3 n_q_1
    replace m_q_2 := frozen_later hs3 n_q_2 m_q_2
    replace n_q_2 := cell_later hs3 n_q_2
    have z_q := World.block_lt_of_cell? _ _ n_q_0
    have z_r := World.block_lt_of_cell? _ _ n_r_0
    have hB3 := below_two hB2 hs3
    clear hB2 hs3
    rw [hr]
    have l_q_0 : (w3.setCell ⟨w1.heap.size, 2, none⟩ (.int .i64 4)).cell? ⟨w1.heap.size, 0, none⟩ = some (.int .i64 x) := set_beside (by decide) n_q_0
    have l_q_1 : (w3.setCell ⟨w1.heap.size, 2, none⟩ (.int .i64 4)).cell? ⟨w1.heap.size, 1, none⟩ = some (.int .i64 b) := set_beside (by decide) n_q_1
    have l_q_2 : (w3.setCell ⟨w1.heap.size, 2, none⟩ (.int .i64 4)).cell? ⟨w1.heap.size, 2, none⟩ = some (.int .i64 4) := set_same (held_of n_q_2)
    have l_r_0 : (w3.setCell ⟨w1.heap.size, 2, none⟩ (.int .i64 4)).cell? ⟨w.heap.size + 1, 0, none⟩ = some (.int .i64 0) := set_far (by omega) n_r_0
    have k_r_0 : (w3.setCell ⟨w1.heap.size, 2, none⟩ (.int .i64 4)).frozen? ⟨w.heap.size + 1, 0, none⟩ = false := set_frozen m_r_0
    have l_r_1 : (w3.setCell ⟨w1.heap.size, 2, none⟩ (.int .i64 4)).cell? ⟨w.heap.size + 1, 1, none⟩ = some (.int .i64 0) := set_far (by omega) n_r_1
    have k_r_1 : (w3.setCell ⟨w1.heap.size, 2, none⟩ (.int .i64 4)).frozen? ⟨w.heap.size + 1, 1, none⟩ = false := set_frozen m_r_1
    have l_r_2 : (w3.setCell ⟨w1.heap.size, 2, none⟩ (.int .i64 4)).cell? ⟨w.heap.size + 1, 2, none⟩ = some (.int .i64 0) := set_far (by omega) n_r_2
    have k_r_2 : (w3.setCell ⟨w1.heap.size, 2, none⟩ (.int .i64 4)).frozen? ⟨w.heap.size + 1, 2, none⟩ = false := set_frozen m_r_2
    have hB4 : Below w.heap.size w (w3.setCell ⟨w1.heap.size, 2, none⟩ (.int .i64 4)) := set1_below hB3 (by omega)
    obtain ⟨e0, e1, e2⟩ := put3_of (x := .int .i64 x) (y := .int .i64 b) (z := .int .i64 4) l_r_0 l_r_1 l_r_2
    go_wp2
    exact bodyPost_ret (v := pt x b 4) (by simp [results, Tryd.results13, go_sem, e0, e1, e2]) rfl ⟨rfl, put3_below hB4 (by omega)⟩

set_option maxRecDepth 100000 in
set_option maxHeartbeats 4000000 in
theorem pitch_yes (s a o : Int) (w : World) (hs : Pit.I64 s) (ha : Pit.I64 a) (ho : Pit.I64 o) (x y z b c : Int) (HX : Hid (pickS s 7 = x)) (HY : Hid (pickS a 5 = y)) (HZ : Hid (pickS o 11 = z)) (hb : IntKind.i64.wrap (y - 2) = b) (hc : IntKind.i64.wrap (z - 1) = c) (hr : Pit.right x b c = true) :
    Calls Tryd.prog 13 #[pt s a o] w fun e w' => e = .returned (pt x b c) ∧ Below w.heap.size w w' := by
  have hB0 : Below w.heap.size w w := Below.refl _ _
  go_enter Tryd.func13, Tryd.ntmps13
  go_wp2_with fail
  have hs1 : Below w.heap.size w ((w.alloc (.cells #[.int .i64 s, .int .i64 a, .int .i64 o] 23)).alloc (.cells #[.int .i64 0, .int .i64 0, .int .i64 0] 23)) := by repeat (first | exact Below.refl _ _ | refine Below.alloc ?_ (by simp <;> omega) _)
  have c_p_0 : ((w.alloc (.cells #[.int .i64 s, .int .i64 a, .int .i64 o] 23)).alloc (.cells #[.int .i64 0, .int .i64 0, .int .i64 0] 23)).cell? ⟨w.heap.size, 0, none⟩ = some (.int .i64 s) := by go_simp
  have c_p_1 : ((w.alloc (.cells #[.int .i64 s, .int .i64 a, .int .i64 o] 23)).alloc (.cells #[.int .i64 0, .int .i64 0, .int .i64 0] 23)).cell? ⟨w.heap.size, 1, none⟩ = some (.int .i64 a) := by go_simp
  have c_p_2 : ((w.alloc (.cells #[.int .i64 s, .int .i64 a, .int .i64 o] 23)).alloc (.cells #[.int .i64 0, .int .i64 0, .int .i64 0] 23)).cell? ⟨w.heap.size, 2, none⟩ = some (.int .i64 o) := by go_simp
  have c_r_0 : ((w.alloc (.cells #[.int .i64 s, .int .i64 a, .int .i64 o] 23)).alloc (.cells #[.int .i64 0, .int .i64 0, .int .i64 0] 23)).cell? ⟨w.heap.size + 1, 0, none⟩ = some (.int .i64 0) := by go_simp
  have f_r_0 : ((w.alloc (.cells #[.int .i64 s, .int .i64 a, .int .i64 o] 23)).alloc (.cells #[.int .i64 0, .int .i64 0, .int .i64 0] 23)).frozen? ⟨w.heap.size + 1, 0, none⟩ = false := by go_simp
  have c_r_1 : ((w.alloc (.cells #[.int .i64 s, .int .i64 a, .int .i64 o] 23)).alloc (.cells #[.int .i64 0, .int .i64 0, .int .i64 0] 23)).cell? ⟨w.heap.size + 1, 1, none⟩ = some (.int .i64 0) := by go_simp
  have f_r_1 : ((w.alloc (.cells #[.int .i64 s, .int .i64 a, .int .i64 o] 23)).alloc (.cells #[.int .i64 0, .int .i64 0, .int .i64 0] 23)).frozen? ⟨w.heap.size + 1, 1, none⟩ = false := by go_simp
  have c_r_2 : ((w.alloc (.cells #[.int .i64 s, .int .i64 a, .int .i64 o] 23)).alloc (.cells #[.int .i64 0, .int .i64 0, .int .i64 0] 23)).cell? ⟨w.heap.size + 1, 2, none⟩ = some (.int .i64 0) := by go_simp
  have f_r_2 : ((w.alloc (.cells #[.int .i64 s, .int .i64 a, .int .i64 o] 23)).alloc (.cells #[.int .i64 0, .int .i64 0, .int .i64 0] 23)).frozen? ⟨w.heap.size + 1, 2, none⟩ = false := by go_simp
  have hB1 := below_two hB0 hs1
  clear hB0 hs1
  generalize ((w.alloc (.cells #[.int .i64 s, .int .i64 a, .int .i64 o] 23)).alloc (.cells #[.int .i64 0, .int .i64 0, .int .i64 0] 23)) = w1 at *
  have z_p := World.block_lt_of_cell? _ _ c_p_0
  have z_r := World.block_lt_of_cell? _ _ c_r_0
  go_region_held3 (fun w' => w'.cell? ⟨w.heap.size, 0, none⟩ = some (.int .i64 s) ∧ w'.cell? ⟨w.heap.size, 1, none⟩ = some (.int .i64 a) ∧ w'.cell? ⟨w.heap.size, 2, none⟩ = some (.int .i64 o) ∧ w'.cell? ⟨w.heap.size + 1, 0, none⟩ = some (.int .i64 0) ∧ w'.frozen? ⟨w.heap.size + 1, 0, none⟩ = false ∧ w'.cell? ⟨w.heap.size + 1, 1, none⟩ = some (.int .i64 0) ∧ w'.frozen? ⟨w.heap.size + 1, 1, none⟩ = false ∧ w'.cell? ⟨w.heap.size + 1, 2, none⟩ = some (.int .i64 0) ∧ w'.frozen? ⟨w.heap.size + 1, 2, none⟩ = false ∧ Below w.heap.size w w')
    (((try go_split_ands); refine ⟨?_, ?_, ?_, ?_, ?_, ?_, ?_, ?_, ?_, ?_⟩ <;> first | with_reducible assumption | (with_reducible refine cell_later hq ?_; with_reducible assumption) | (with_reducible refine below_two ?_ hq; with_reducible assumption) | (with_reducible refine frozen_later (v := ?_) hq ?_ ?_; rotate_left; with_reducible assumption; with_reducible assumption) | (with_reducible refine cell_drew (alloc_cell ?_); with_reducible assumption) | (with_reducible refine frozen_drew (alloc_frozen (v := ?_) ?_ ?_); rotate_left; with_reducible assumption; with_reducible assumption) | (with_reducible refine Below.drew (alloc_below ?_); with_reducible assumption) | with_reducible exact cell_drew c_p_0 | with_reducible exact cell_drew c_p_1 | with_reducible exact cell_drew c_p_2 | with_reducible exact cell_drew c_r_0 | with_reducible exact frozen_drew f_r_0 | with_reducible exact cell_drew c_r_1 | with_reducible exact frozen_drew f_r_1 | with_reducible exact cell_drew c_r_2 | with_reducible exact frozen_drew f_r_2 | with_reducible exact hB1.drew))
    (first
      | (go_at_call 22; refine (pick_any _ _ _ ?_ ?_ ?_).mono ?_; (first | exact hs | exact ha | exact ho); decide; decide; rintro e w2 ⟨rfl, rfl⟩; (first | rw [HX.out] | rw [HY.out] | rw [HZ.out])))
  all_goals
    have hs2 : Below w1.heap.size w1 (w1.alloc (.cells #[.int .i64 x, .int .i64 b, .int .i64 c] 23)).drew := ((Below.refl _ _).alloc (Nat.le_refl _) _).drew
    have n_r_0 := cell_later hs2 c_r_0
    have m_r_0 := frozen_later hs2 c_r_0 f_r_0
    have n_r_1 := cell_later hs2 c_r_1
    have m_r_1 := frozen_later hs2 c_r_1 f_r_1
    have n_r_2 := cell_later hs2 c_r_2
    have m_r_2 := frozen_later hs2 c_r_2 f_r_2
    have n_q_0 : (w1.alloc (.cells #[.int .i64 x, .int .i64 b, .int .i64 c] 23)).drew.cell? ⟨w1.heap.size, 0, none⟩ = some (.int .i64 x) := by go_simp
    have m_q_0 : (w1.alloc (.cells #[.int .i64 x, .int .i64 b, .int .i64 c] 23)).drew.frozen? ⟨w1.heap.size, 0, none⟩ = false := by go_simp
    have n_q_1 : (w1.alloc (.cells #[.int .i64 x, .int .i64 b, .int .i64 c] 23)).drew.cell? ⟨w1.heap.size, 1, none⟩ = some (.int .i64 b) := by go_simp
    have m_q_1 : (w1.alloc (.cells #[.int .i64 x, .int .i64 b, .int .i64 c] 23)).drew.frozen? ⟨w1.heap.size, 1, none⟩ = false := by go_simp
    have n_q_2 : (w1.alloc (.cells #[.int .i64 x, .int .i64 b, .int .i64 c] 23)).drew.cell? ⟨w1.heap.size, 2, none⟩ = some (.int .i64 c) := by go_simp
    have m_q_2 : (w1.alloc (.cells #[.int .i64 x, .int .i64 b, .int .i64 c] 23)).drew.frozen? ⟨w1.heap.size, 2, none⟩ = false := by go_simp
    have hB2 := below_two hB1 hs2
    have y_r := World.block_lt_of_cell? _ _ c_r_0
    clear c_p_0 c_p_1 c_p_2 c_r_0 c_r_1 c_r_2 f_r_0 f_r_1 f_r_2 z_p z_r hB1 hs2
    generalize (w1.alloc (.cells #[.int .i64 x, .int .i64 b, .int .i64 c] 23)).drew = w2 at *
    go_wp2_with fail
    refine (refRight_any _ _ _ _).mono ?_
    rintro e w3 ⟨rfl, hb3⟩
    have hs3 := hb3
    replace m_r_0 := frozen_later hs3 n_r_0 m_r_0
    replace n_r_0 := cell_later hs3 n_r_0
    replace m_r_1 := frozen_later hs3 n_r_1 m_r_1
    replace n_r_1 := cell_later hs3 n_r_1
    replace m_r_2 := frozen_later hs3 n_r_2 m_r_2
    replace n_r_2 := cell_later hs3 n_r_2
    replace m_q_0 := frozen_later hs3 n_q_0 m_q_0
    replace n_q_0 := cell_later hs3 n_q_0
    replace m_q_1 := frozen_later hs3 n_q_1 m_q_1
    replace n_q_1 := cell_later hs3 n_q_1
    replace m_q_2 := frozen_later hs3 n_q_2 m_q_2
    replace n_q_2 := cell_later hs3 n_q_2
    have z_q := World.block_lt_of_cell? _ _ n_q_0
    have z_r := World.block_lt_of_cell? _ _ n_r_0
    have hB3 := below_two hB2 hs3
    clear hB2 hs3
    rw [hr]
    obtain ⟨e0, e1, e2⟩ := put3_of (x := .int .i64 x) (y := .int .i64 b) (z := .int .i64 c) n_r_0 n_r_1 n_r_2
    go_wp2
    exact bodyPost_ret (v := pt x b c) (by simp [results, Tryd.results13, go_sem, e0, e1, e2]) rfl ⟨rfl, put3_below hB3 (by omega)⟩

/-- Pitch answers one right pitch, in whatever world. -/
theorem pitch_fix (s a o : Int) (hs : Pit.I64 s) (ha : Pit.I64 a) (ho : Pit.I64 o) : ∃ x y z, Pit.IsRight x y z ∧ ∀ w, Calls Tryd.prog 13 #[pt s a o] w fun e w' => e = .returned (pt x y z) ∧ Below w.heap.size w w' := by
  obtain ⟨x0, x1⟩ := pickS_bounds s (n := 7) (by decide)
  obtain ⟨y0, y1⟩ := pickS_bounds a (n := 5) (by decide)
  obtain ⟨z0, z1⟩ := pickS_bounds o (n := 11) (by decide)
  have hb : IntKind.i64.wrap (pickS a 5 - 2) = pickS a 5 - 2 := IntWalk.i64_in _ (by omega)
  have hc : IntKind.i64.wrap (pickS o 11 - 1) = pickS o 11 - 1 := IntWalk.i64_in _ (by omega)
  cases hr : Pit.right (pickS s 7) (pickS a 5 - 2) (pickS o 11 - 1) with
  | true => exact ⟨_, _, _, (Pit.right_iff _ _ _).1 hr, fun w => pitch_yes s a o w hs ha ho _ _ _ _ _ (Lib.hid rfl) (Lib.hid rfl) (Lib.hid rfl) hb hc hr⟩
  | false =>
    refine ⟨_, _, 4, ⟨x0, by omega, ?_, ?_, by omega, by omega, ?_, ?_⟩, fun w => pitch_no s a o w hs ha ho _ _ _ _ _ (Lib.hid rfl) (Lib.hid rfl) (Lib.hid rfl) hb hc hr⟩
    · omega
    · omega
    · rw [Pit.num_eq]; rcases Pit.hv_cases (pickS s 7) with ⟨_, e⟩ | ⟨_, e⟩ <;> omega
    · rw [Pit.num_eq]; rcases Pit.hv_cases (pickS s 7) with ⟨_, e⟩ | ⟨_, e⟩ <;> omega
end Go.Proofs.YtoopchnncjfjoaaDoor
