/-
  The contract of pitch.Read.
-/
import Derived.Test.YtoopchnncjfjoaaDoorPitE
import Derived.Test.YtoopchnncjfjoaaDoorPitF
namespace Go.Proofs.YtoopchnncjfjoaaDoor
open Go.RowKit

/-- What Atoi answers, where it answers a number. -/
theorem atoi_ok (s : ByteArray) (hs : s.size ≤ 1000) (v : Int) (h : Lib.atoiAll s.data.toList = .ok v) (w : World) :
    Calls Tryd.prog 40 #[.string s] w fun e w' => e = .returned (.tuple #[.int .i64 v, .nilIface]) ∧ Below w.heap.size w w' :=
  (Tryd.strconv_Atoi_ok s (by omega) v h w).mono fun _ _ ⟨he, hw⟩ => ⟨he, by
    rcases hw with hw | ⟨t, hw⟩
    · rw [hw]; exact Below.refl _ _
    · rw [hw]; exact Lib.bytesWorld_below _ _ _⟩

def AtoiBad (w : World) (e : Ending) (w' : World) : Prop := ∃ v N, e = .returned (.tuple #[.int .i64 v, .iface 72 (.pointer (some ⟨N, 0, none⟩))]) ∧ Below w.heap.size w w'
theorem atoi_bad (s : ByteArray) (hs : s.size ≤ 1000) (h : ∀ v, Lib.atoiAll s.data.toList ≠ .ok v) (w : World) (hR : Ready w) :
    Calls Tryd.prog 40 #[.string s] w (AtoiBad w) := by
  cases ha : Lib.atoiAll s.data.toList
  · exact absurd ha (h _)
  · obtain ⟨te, pe, hc⟩ := hR.syn
    exact (Any.strconv_Atoi_syntax Tryd.laysC172 s (by omega) ha _ w hc (Or.inr ⟨te, pe, rfl⟩)).mono fun _ _ ⟨N, he, _, _, hb⟩ => ⟨_, N, he, hb⟩
  · obtain ⟨te, pe, hc⟩ := hR.rng
    exact (Any.strconv_Atoi_range Tryd.laysC172 s (by omega) ha _ w hc (Or.inr ⟨te, pe, rfl⟩)).mono fun _ _ ⟨N, he, _, _, hb⟩ => ⟨_, N, he, hb⟩
theorem sz (l : List UInt8) : (⟨l.toArray⟩ : ByteArray).size = l.length := by simp [ByteArray.size]

set_option maxRecDepth 100000 in
set_option maxHeartbeats 4000000 in
theorem read_bad (s : ByteArray) (w : World) (hR : Ready w) (hs : s.size ≤ 1000) (S A : Int) (P0 : Nat) (HH : Hid (Pit.hd s = (S, A, P0))) (E : ByteArray) (HE : Hid (s.extract P0 s.size = E)) (hE : E.size ≤ 1000) (hx : ∀ v, Lib.atoiAll E.data.toList ≠ .ok v) :
    Calls Tryd.prog 29 #[.string s] w fun e w' => e = .returned (pv 0 0 0 21) ∧ Below w.heap.size w w' := by
  have hB0 : Below w.heap.size w w := Below.refl _ _
  go_enter Tryd.func29, Tryd.ntmps29
  go_wp2_with fail
  have hR' := hR.below (hB0.alloc hB0.size (.cells #[.int .i64 0, .int .i64 0, .int .i64 0] 23))
  refine (head_any _ _ hs _ _ _ HH _ HE).mono ?_
  rintro e w1 ⟨rfl, hb1⟩
  clear hR'
  have hs1 : Below w.heap.size w w1 := Below.trans (by repeat (first | exact Below.refl _ _ | refine Below.alloc ?_ (by simp <;> omega) _)) (hb1.mono (by simp <;> omega))
  have c_r_0 : w1.cell? ⟨w.heap.size, 0, none⟩ = some (.int .i64 0) := (hb1.cell (by simp <;> omega)).trans (by go_simp)
  have f_r_0 : w1.frozen? ⟨w.heap.size, 0, none⟩ = false := (hb1.frozen (by simp <;> omega)).trans (by go_simp)
  have c_r_1 : w1.cell? ⟨w.heap.size, 1, none⟩ = some (.int .i64 0) := (hb1.cell (by simp <;> omega)).trans (by go_simp)
  have f_r_1 : w1.frozen? ⟨w.heap.size, 1, none⟩ = false := (hb1.frozen (by simp <;> omega)).trans (by go_simp)
  have c_r_2 : w1.cell? ⟨w.heap.size, 2, none⟩ = some (.int .i64 0) := (hb1.cell (by simp <;> omega)).trans (by go_simp)
  have f_r_2 : w1.frozen? ⟨w.heap.size, 2, none⟩ = false := (hb1.frozen (by simp <;> omega)).trans (by go_simp)
  have z_r := World.block_lt_of_cell? _ _ c_r_0
  have hB1 := below_two hB0 hs1
  clear hB0 hs1 hb1
  go_wp2_with fail
  have hR' := hR.below (hB1.alloc hB1.size (.cells #[.int .i64 S, .int .i64 A, .int .i64 0] 23))
  refine (atoi_bad _ hE hx _ hR').mono ?_
  rintro e w2 ⟨v2, N2, rfl, hb2⟩
  clear hR'
  have y2_r := z_r
  have hs2 : Below w1.heap.size w1 w2 := Below.trans (by repeat (first | exact Below.refl _ _ | refine Below.alloc ?_ (by simp <;> omega) _)) (hb2.mono (by simp <;> omega))
  replace f_r_0 := frozen_later hs2 c_r_0 f_r_0
  replace c_r_0 := cell_later hs2 c_r_0
  replace f_r_1 := frozen_later hs2 c_r_1 f_r_1
  replace c_r_1 := cell_later hs2 c_r_1
  replace f_r_2 := frozen_later hs2 c_r_2 f_r_2
  replace c_r_2 := cell_later hs2 c_r_2
  have c_p_0 : w2.cell? ⟨w1.heap.size, 0, none⟩ = some (.int .i64 S) := (hb2.cell (by simp <;> omega)).trans (by go_simp)
  have f_p_0 : w2.frozen? ⟨w1.heap.size, 0, none⟩ = false := (hb2.frozen (by simp <;> omega)).trans (by go_simp)
  have c_p_1 : w2.cell? ⟨w1.heap.size, 1, none⟩ = some (.int .i64 A) := (hb2.cell (by simp <;> omega)).trans (by go_simp)
  have f_p_1 : w2.frozen? ⟨w1.heap.size, 1, none⟩ = false := (hb2.frozen (by simp <;> omega)).trans (by go_simp)
  have c_p_2 : w2.cell? ⟨w1.heap.size, 2, none⟩ = some (.int .i64 0) := (hb2.cell (by simp <;> omega)).trans (by go_simp)
  have f_p_2 : w2.frozen? ⟨w1.heap.size, 2, none⟩ = false := (hb2.frozen (by simp <;> omega)).trans (by go_simp)
  have z_p := World.block_lt_of_cell? _ _ c_p_0
  clear z_r
  have z_r := World.block_lt_of_cell? _ _ c_r_0
  have hB2 := below_two hB1 hs2
  clear hB1 hs2 hb2
  obtain ⟨m0, m1, m2⟩ := put3_of (x := .int .i64 0) (y := .int .i64 0) (z := .int .i64 0) c_r_0 c_r_1 c_r_2
  go_wp2
  exact bodyPost_ret (v := .tuple #[.agg #[.int .i64 0, .int .i64 0, .int .i64 0], .int .i64 21]) (by simp [results, Tryd.results29, go_sem, m0, m1, m2]) rfl ⟨rfl, put3_below hB2 (by omega)⟩

set_option maxRecDepth 100000 in
set_option maxHeartbeats 4000000 in
theorem read_no (s : ByteArray) (w : World) (hR : Ready w) (hs : s.size ≤ 1000) (S A : Int) (P0 : Nat) (HH : Hid (Pit.hd s = (S, A, P0))) (E : ByteArray) (HE : Hid (s.extract P0 s.size = E)) (hE : E.size ≤ 1000) (o : Int) (hx : Lib.atoiAll E.data.toList = .ok o) (hr : Pit.right S A o = false) :
    Calls Tryd.prog 29 #[.string s] w fun e w' => e = .returned (pv 0 0 0 21) ∧ Below w.heap.size w w' := by
  have hB0 : Below w.heap.size w w := Below.refl _ _
  go_enter Tryd.func29, Tryd.ntmps29
  go_wp2_with fail
  have hR' := hR.below (hB0.alloc hB0.size (.cells #[.int .i64 0, .int .i64 0, .int .i64 0] 23))
  refine (head_any _ _ hs _ _ _ HH _ HE).mono ?_
  rintro e w1 ⟨rfl, hb1⟩
  clear hR'
  have hs1 : Below w.heap.size w w1 := Below.trans (by repeat (first | exact Below.refl _ _ | refine Below.alloc ?_ (by simp <;> omega) _)) (hb1.mono (by simp <;> omega))
  have c_r_0 : w1.cell? ⟨w.heap.size, 0, none⟩ = some (.int .i64 0) := (hb1.cell (by simp <;> omega)).trans (by go_simp)
  have f_r_0 : w1.frozen? ⟨w.heap.size, 0, none⟩ = false := (hb1.frozen (by simp <;> omega)).trans (by go_simp)
  have c_r_1 : w1.cell? ⟨w.heap.size, 1, none⟩ = some (.int .i64 0) := (hb1.cell (by simp <;> omega)).trans (by go_simp)
  have f_r_1 : w1.frozen? ⟨w.heap.size, 1, none⟩ = false := (hb1.frozen (by simp <;> omega)).trans (by go_simp)
  have c_r_2 : w1.cell? ⟨w.heap.size, 2, none⟩ = some (.int .i64 0) := (hb1.cell (by simp <;> omega)).trans (by go_simp)
  have f_r_2 : w1.frozen? ⟨w.heap.size, 2, none⟩ = false := (hb1.frozen (by simp <;> omega)).trans (by go_simp)
  have z_r := World.block_lt_of_cell? _ _ c_r_0
  have hB1 := below_two hB0 hs1
  clear hB0 hs1 hb1
  go_wp2_with fail
  have hR' := hR.below (hB1.alloc hB1.size (.cells #[.int .i64 S, .int .i64 A, .int .i64 0] 23))
  refine (atoi_ok _ hE _ hx _).mono ?_
  rintro e w2 ⟨rfl, hb2⟩
  clear hR'
  have y2_r := z_r
  have hs2 : Below w1.heap.size w1 w2 := Below.trans (by repeat (first | exact Below.refl _ _ | refine Below.alloc ?_ (by simp <;> omega) _)) (hb2.mono (by simp <;> omega))
  replace f_r_0 := frozen_later hs2 c_r_0 f_r_0
  replace c_r_0 := cell_later hs2 c_r_0
  replace f_r_1 := frozen_later hs2 c_r_1 f_r_1
  replace c_r_1 := cell_later hs2 c_r_1
  replace f_r_2 := frozen_later hs2 c_r_2 f_r_2
  replace c_r_2 := cell_later hs2 c_r_2
  have c_p_0 : w2.cell? ⟨w1.heap.size, 0, none⟩ = some (.int .i64 S) := (hb2.cell (by simp <;> omega)).trans (by go_simp)
  have f_p_0 : w2.frozen? ⟨w1.heap.size, 0, none⟩ = false := (hb2.frozen (by simp <;> omega)).trans (by go_simp)
  have c_p_1 : w2.cell? ⟨w1.heap.size, 1, none⟩ = some (.int .i64 A) := (hb2.cell (by simp <;> omega)).trans (by go_simp)
  have f_p_1 : w2.frozen? ⟨w1.heap.size, 1, none⟩ = false := (hb2.frozen (by simp <;> omega)).trans (by go_simp)
  have c_p_2 : w2.cell? ⟨w1.heap.size, 2, none⟩ = some (.int .i64 0) := (hb2.cell (by simp <;> omega)).trans (by go_simp)
  have f_p_2 : w2.frozen? ⟨w1.heap.size, 2, none⟩ = false := (hb2.frozen (by simp <;> omega)).trans (by go_simp)
  have z_p := World.block_lt_of_cell? _ _ c_p_0
  clear z_r
  have z_r := World.block_lt_of_cell? _ _ c_r_0
  have hB2 := below_two hB1 hs2
  clear hB1 hs2 hb2
  go_wp2_with fail
  have n_c_r_0 : (w2.setCell ⟨w1.heap.size, 2, none⟩ (.int .i64 o)).cell? ⟨w.heap.size, 0, none⟩ = some (.int .i64 0) := set_far (by omega) c_r_0
  have n_f_r_0 : (w2.setCell ⟨w1.heap.size, 2, none⟩ (.int .i64 o)).frozen? ⟨w.heap.size, 0, none⟩ = false := set_frozen f_r_0
  have n_c_r_1 : (w2.setCell ⟨w1.heap.size, 2, none⟩ (.int .i64 o)).cell? ⟨w.heap.size, 1, none⟩ = some (.int .i64 0) := set_far (by omega) c_r_1
  have n_f_r_1 : (w2.setCell ⟨w1.heap.size, 2, none⟩ (.int .i64 o)).frozen? ⟨w.heap.size, 1, none⟩ = false := set_frozen f_r_1
  have n_c_r_2 : (w2.setCell ⟨w1.heap.size, 2, none⟩ (.int .i64 o)).cell? ⟨w.heap.size, 2, none⟩ = some (.int .i64 0) := set_far (by omega) c_r_2
  have n_f_r_2 : (w2.setCell ⟨w1.heap.size, 2, none⟩ (.int .i64 o)).frozen? ⟨w.heap.size, 2, none⟩ = false := set_frozen f_r_2
  have n_c_p_0 : (w2.setCell ⟨w1.heap.size, 2, none⟩ (.int .i64 o)).cell? ⟨w1.heap.size, 0, none⟩ = some (.int .i64 S) := set_beside (by decide) c_p_0
  have n_f_p_0 : (w2.setCell ⟨w1.heap.size, 2, none⟩ (.int .i64 o)).frozen? ⟨w1.heap.size, 0, none⟩ = false := set_frozen f_p_0
  have n_c_p_1 : (w2.setCell ⟨w1.heap.size, 2, none⟩ (.int .i64 o)).cell? ⟨w1.heap.size, 1, none⟩ = some (.int .i64 A) := set_beside (by decide) c_p_1
  have n_f_p_1 : (w2.setCell ⟨w1.heap.size, 2, none⟩ (.int .i64 o)).frozen? ⟨w1.heap.size, 1, none⟩ = false := set_frozen f_p_1
  have n_c_p_2 : (w2.setCell ⟨w1.heap.size, 2, none⟩ (.int .i64 o)).cell? ⟨w1.heap.size, 2, none⟩ = some (.int .i64 o) := set_same (held_of c_p_2)
  have n_f_p_2 : (w2.setCell ⟨w1.heap.size, 2, none⟩ (.int .i64 o)).frozen? ⟨w1.heap.size, 2, none⟩ = false := set_frozen f_p_2
  have hB3 : Below w.heap.size w (w2.setCell ⟨w1.heap.size, 2, none⟩ (.int .i64 o)) := set1_below hB2 (by omega)
  clear c_r_0 c_r_1 c_r_2 c_p_0 c_p_1 c_p_2 f_r_0 f_r_1 f_r_2 f_p_0 f_p_1 f_p_2 z_p z_r hB2
  generalize (w2.setCell ⟨w1.heap.size, 2, none⟩ (.int .i64 o)) = w3 at *
  go_wp2_with fail
  have hR' := hR.below hB3
  refine (text_no _ _ _ _ hR' hr).mono ?_
  rintro e w4 ⟨rfl, hb4⟩
  clear hR'
  have hs4 := hb4
  clear n_c_p_0
  clear n_f_p_0
  clear n_c_p_1
  clear n_f_p_1
  clear n_c_p_2
  clear n_f_p_2
  replace n_f_r_0 := frozen_later hs4 n_c_r_0 n_f_r_0
  replace n_c_r_0 := cell_later hs4 n_c_r_0
  replace n_f_r_1 := frozen_later hs4 n_c_r_1 n_f_r_1
  replace n_c_r_1 := cell_later hs4 n_c_r_1
  replace n_f_r_2 := frozen_later hs4 n_c_r_2 n_f_r_2
  replace n_c_r_2 := cell_later hs4 n_c_r_2
  have z_r := World.block_lt_of_cell? _ _ n_c_r_0
  have hB4 := below_two hB3 hs4
  clear hB3 hs4
  obtain ⟨m0, m1, m2⟩ := put3_of (x := .int .i64 0) (y := .int .i64 0) (z := .int .i64 0) n_c_r_0 n_c_r_1 n_c_r_2
  go_wp2
  exact bodyPost_ret (v := .tuple #[.agg #[.int .i64 0, .int .i64 0, .int .i64 0], .int .i64 21]) (by simp [results, Tryd.results29, go_sem, m0, m1, m2]) rfl ⟨rfl, put3_below hB4 (by omega)⟩

set_option maxRecDepth 100000 in
set_option maxHeartbeats 4000000 in
theorem read_other (s : ByteArray) (w : World) (hR : Ready w) (hs : s.size ≤ 1000) (S A : Int) (P0 : Nat) (HH : Hid (Pit.hd s = (S, A, P0))) (E : ByteArray) (HE : Hid (s.extract P0 s.size = E)) (hE : E.size ≤ 1000) (o : Int) (hx : Lib.atoiAll E.data.toList = .ok o) (hr : Pit.IsRight S A o) (T : List UInt8) (HT : Hid (Pit.txt S A o = T)) (hl : (T == s.data.toList) = false) :
    Calls Tryd.prog 29 #[.string s] w fun e w' => e = .returned (pv 0 0 0 21) ∧ Below w.heap.size w w' := by
  have hl2 : (T == s.toList) = false := by rw [ByteArray.toList_eq]; exact hl
  have hB0 : Below w.heap.size w w := Below.refl _ _
  go_enter Tryd.func29, Tryd.ntmps29
  go_wp2_with fail
  have hR' := hR.below (hB0.alloc hB0.size (.cells #[.int .i64 0, .int .i64 0, .int .i64 0] 23))
  refine (head_any _ _ hs _ _ _ HH _ HE).mono ?_
  rintro e w1 ⟨rfl, hb1⟩
  clear hR'
  have hs1 : Below w.heap.size w w1 := Below.trans (by repeat (first | exact Below.refl _ _ | refine Below.alloc ?_ (by simp <;> omega) _)) (hb1.mono (by simp <;> omega))
  have c_r_0 : w1.cell? ⟨w.heap.size, 0, none⟩ = some (.int .i64 0) := (hb1.cell (by simp <;> omega)).trans (by go_simp)
  have f_r_0 : w1.frozen? ⟨w.heap.size, 0, none⟩ = false := (hb1.frozen (by simp <;> omega)).trans (by go_simp)
  have c_r_1 : w1.cell? ⟨w.heap.size, 1, none⟩ = some (.int .i64 0) := (hb1.cell (by simp <;> omega)).trans (by go_simp)
  have f_r_1 : w1.frozen? ⟨w.heap.size, 1, none⟩ = false := (hb1.frozen (by simp <;> omega)).trans (by go_simp)
  have c_r_2 : w1.cell? ⟨w.heap.size, 2, none⟩ = some (.int .i64 0) := (hb1.cell (by simp <;> omega)).trans (by go_simp)
  have f_r_2 : w1.frozen? ⟨w.heap.size, 2, none⟩ = false := (hb1.frozen (by simp <;> omega)).trans (by go_simp)
  have z_r := World.block_lt_of_cell? _ _ c_r_0
  have hB1 := below_two hB0 hs1
  clear hB0 hs1 hb1
  go_wp2_with fail
  have hR' := hR.below (hB1.alloc hB1.size (.cells #[.int .i64 S, .int .i64 A, .int .i64 0] 23))
  refine (atoi_ok _ hE _ hx _).mono ?_
  rintro e w2 ⟨rfl, hb2⟩
  clear hR'
  have y2_r := z_r
  have hs2 : Below w1.heap.size w1 w2 := Below.trans (by repeat (first | exact Below.refl _ _ | refine Below.alloc ?_ (by simp <;> omega) _)) (hb2.mono (by simp <;> omega))
  replace f_r_0 := frozen_later hs2 c_r_0 f_r_0
  replace c_r_0 := cell_later hs2 c_r_0
  replace f_r_1 := frozen_later hs2 c_r_1 f_r_1
  replace c_r_1 := cell_later hs2 c_r_1
  replace f_r_2 := frozen_later hs2 c_r_2 f_r_2
  replace c_r_2 := cell_later hs2 c_r_2
  have c_p_0 : w2.cell? ⟨w1.heap.size, 0, none⟩ = some (.int .i64 S) := (hb2.cell (by simp <;> omega)).trans (by go_simp)
  have f_p_0 : w2.frozen? ⟨w1.heap.size, 0, none⟩ = false := (hb2.frozen (by simp <;> omega)).trans (by go_simp)
  have c_p_1 : w2.cell? ⟨w1.heap.size, 1, none⟩ = some (.int .i64 A) := (hb2.cell (by simp <;> omega)).trans (by go_simp)
  have f_p_1 : w2.frozen? ⟨w1.heap.size, 1, none⟩ = false := (hb2.frozen (by simp <;> omega)).trans (by go_simp)
  have c_p_2 : w2.cell? ⟨w1.heap.size, 2, none⟩ = some (.int .i64 0) := (hb2.cell (by simp <;> omega)).trans (by go_simp)
  have f_p_2 : w2.frozen? ⟨w1.heap.size, 2, none⟩ = false := (hb2.frozen (by simp <;> omega)).trans (by go_simp)
  have z_p := World.block_lt_of_cell? _ _ c_p_0
  clear z_r
  have z_r := World.block_lt_of_cell? _ _ c_r_0
  have hB2 := below_two hB1 hs2
  clear hB1 hs2 hb2
  go_wp2_with fail
  have n_c_r_0 : (w2.setCell ⟨w1.heap.size, 2, none⟩ (.int .i64 o)).cell? ⟨w.heap.size, 0, none⟩ = some (.int .i64 0) := set_far (by omega) c_r_0
  have n_f_r_0 : (w2.setCell ⟨w1.heap.size, 2, none⟩ (.int .i64 o)).frozen? ⟨w.heap.size, 0, none⟩ = false := set_frozen f_r_0
  have n_c_r_1 : (w2.setCell ⟨w1.heap.size, 2, none⟩ (.int .i64 o)).cell? ⟨w.heap.size, 1, none⟩ = some (.int .i64 0) := set_far (by omega) c_r_1
  have n_f_r_1 : (w2.setCell ⟨w1.heap.size, 2, none⟩ (.int .i64 o)).frozen? ⟨w.heap.size, 1, none⟩ = false := set_frozen f_r_1
  have n_c_r_2 : (w2.setCell ⟨w1.heap.size, 2, none⟩ (.int .i64 o)).cell? ⟨w.heap.size, 2, none⟩ = some (.int .i64 0) := set_far (by omega) c_r_2
  have n_f_r_2 : (w2.setCell ⟨w1.heap.size, 2, none⟩ (.int .i64 o)).frozen? ⟨w.heap.size, 2, none⟩ = false := set_frozen f_r_2
  have n_c_p_0 : (w2.setCell ⟨w1.heap.size, 2, none⟩ (.int .i64 o)).cell? ⟨w1.heap.size, 0, none⟩ = some (.int .i64 S) := set_beside (by decide) c_p_0
  have n_f_p_0 : (w2.setCell ⟨w1.heap.size, 2, none⟩ (.int .i64 o)).frozen? ⟨w1.heap.size, 0, none⟩ = false := set_frozen f_p_0
  have n_c_p_1 : (w2.setCell ⟨w1.heap.size, 2, none⟩ (.int .i64 o)).cell? ⟨w1.heap.size, 1, none⟩ = some (.int .i64 A) := set_beside (by decide) c_p_1
  have n_f_p_1 : (w2.setCell ⟨w1.heap.size, 2, none⟩ (.int .i64 o)).frozen? ⟨w1.heap.size, 1, none⟩ = false := set_frozen f_p_1
  have n_c_p_2 : (w2.setCell ⟨w1.heap.size, 2, none⟩ (.int .i64 o)).cell? ⟨w1.heap.size, 2, none⟩ = some (.int .i64 o) := set_same (held_of c_p_2)
  have n_f_p_2 : (w2.setCell ⟨w1.heap.size, 2, none⟩ (.int .i64 o)).frozen? ⟨w1.heap.size, 2, none⟩ = false := set_frozen f_p_2
  have hB3 : Below w.heap.size w (w2.setCell ⟨w1.heap.size, 2, none⟩ (.int .i64 o)) := set1_below hB2 (by omega)
  clear c_r_0 c_r_1 c_r_2 c_p_0 c_p_1 c_p_2 f_r_0 f_r_1 f_r_2 f_p_0 f_p_1 f_p_2 z_p z_r hB2
  generalize (w2.setCell ⟨w1.heap.size, 2, none⟩ (.int .i64 o)) = w3 at *
  go_wp2_with fail
  have hR' := hR.below hB3
  refine (text_yes _ _ _ _ hR' hr).mono ?_
  rintro e w4 ⟨rfl, hb4⟩
  clear hR'
  have hs4 := hb4
  clear n_c_p_0
  clear n_f_p_0
  clear n_c_p_1
  clear n_f_p_1
  clear n_c_p_2
  clear n_f_p_2
  replace n_f_r_0 := frozen_later hs4 n_c_r_0 n_f_r_0
  replace n_c_r_0 := cell_later hs4 n_c_r_0
  replace n_f_r_1 := frozen_later hs4 n_c_r_1 n_f_r_1
  replace n_c_r_1 := cell_later hs4 n_c_r_1
  replace n_f_r_2 := frozen_later hs4 n_c_r_2 n_f_r_2
  replace n_c_r_2 := cell_later hs4 n_c_r_2
  have z_r := World.block_lt_of_cell? _ _ n_c_r_0
  have hB4 := below_two hB3 hs4
  clear hB3 hs4
  rw [HT.out]
  obtain ⟨m0, m1, m2⟩ := put3_of (x := .int .i64 0) (y := .int .i64 0) (z := .int .i64 0) n_c_r_0 n_c_r_1 n_c_r_2
  go_wp2
  exact bodyPost_ret (v := .tuple #[.agg #[.int .i64 0, .int .i64 0, .int .i64 0], .int .i64 21]) (by simp [results, Tryd.results29, go_sem, m0, m1, m2]) rfl ⟨rfl, put3_below hB4 (by omega)⟩

set_option maxRecDepth 100000 in
set_option maxHeartbeats 4000000 in
theorem read_yes (s : ByteArray) (w : World) (hR : Ready w) (hs : s.size ≤ 1000) (S A : Int) (P0 : Nat) (HH : Hid (Pit.hd s = (S, A, P0))) (E : ByteArray) (HE : Hid (s.extract P0 s.size = E)) (hE : E.size ≤ 1000) (o : Int) (hx : Lib.atoiAll E.data.toList = .ok o) (hr : Pit.IsRight S A o) (T : List UInt8) (HT : Hid (Pit.txt S A o = T)) (hl : (T == s.data.toList) = true) :
    Calls Tryd.prog 29 #[.string s] w fun e w' => e = .returned (pv S A o 0) ∧ Below w.heap.size w w' := by
  have hl2 : (T == s.toList) = true := by rw [ByteArray.toList_eq]; exact hl
  have hB0 : Below w.heap.size w w := Below.refl _ _
  go_enter Tryd.func29, Tryd.ntmps29
  go_wp2_with fail
  have hR' := hR.below (hB0.alloc hB0.size (.cells #[.int .i64 0, .int .i64 0, .int .i64 0] 23))
  refine (head_any _ _ hs _ _ _ HH _ HE).mono ?_
  rintro e w1 ⟨rfl, hb1⟩
  clear hR'
  have hs1 : Below w.heap.size w w1 := Below.trans (by repeat (first | exact Below.refl _ _ | refine Below.alloc ?_ (by simp <;> omega) _)) (hb1.mono (by simp <;> omega))
  have c_r_0 : w1.cell? ⟨w.heap.size, 0, none⟩ = some (.int .i64 0) := (hb1.cell (by simp <;> omega)).trans (by go_simp)
  have f_r_0 : w1.frozen? ⟨w.heap.size, 0, none⟩ = false := (hb1.frozen (by simp <;> omega)).trans (by go_simp)
  have c_r_1 : w1.cell? ⟨w.heap.size, 1, none⟩ = some (.int .i64 0) := (hb1.cell (by simp <;> omega)).trans (by go_simp)
  have f_r_1 : w1.frozen? ⟨w.heap.size, 1, none⟩ = false := (hb1.frozen (by simp <;> omega)).trans (by go_simp)
  have c_r_2 : w1.cell? ⟨w.heap.size, 2, none⟩ = some (.int .i64 0) := (hb1.cell (by simp <;> omega)).trans (by go_simp)
  have f_r_2 : w1.frozen? ⟨w.heap.size, 2, none⟩ = false := (hb1.frozen (by simp <;> omega)).trans (by go_simp)
  have z_r := World.block_lt_of_cell? _ _ c_r_0
  have hB1 := below_two hB0 hs1
  clear hB0 hs1 hb1
  go_wp2_with fail
  have hR' := hR.below (hB1.alloc hB1.size (.cells #[.int .i64 S, .int .i64 A, .int .i64 0] 23))
  refine (atoi_ok _ hE _ hx _).mono ?_
  rintro e w2 ⟨rfl, hb2⟩
  clear hR'
  have y2_r := z_r
  have hs2 : Below w1.heap.size w1 w2 := Below.trans (by repeat (first | exact Below.refl _ _ | refine Below.alloc ?_ (by simp <;> omega) _)) (hb2.mono (by simp <;> omega))
  replace f_r_0 := frozen_later hs2 c_r_0 f_r_0
  replace c_r_0 := cell_later hs2 c_r_0
  replace f_r_1 := frozen_later hs2 c_r_1 f_r_1
  replace c_r_1 := cell_later hs2 c_r_1
  replace f_r_2 := frozen_later hs2 c_r_2 f_r_2
  replace c_r_2 := cell_later hs2 c_r_2
  have c_p_0 : w2.cell? ⟨w1.heap.size, 0, none⟩ = some (.int .i64 S) := (hb2.cell (by simp <;> omega)).trans (by go_simp)
  have f_p_0 : w2.frozen? ⟨w1.heap.size, 0, none⟩ = false := (hb2.frozen (by simp <;> omega)).trans (by go_simp)
  have c_p_1 : w2.cell? ⟨w1.heap.size, 1, none⟩ = some (.int .i64 A) := (hb2.cell (by simp <;> omega)).trans (by go_simp)
  have f_p_1 : w2.frozen? ⟨w1.heap.size, 1, none⟩ = false := (hb2.frozen (by simp <;> omega)).trans (by go_simp)
  have c_p_2 : w2.cell? ⟨w1.heap.size, 2, none⟩ = some (.int .i64 0) := (hb2.cell (by simp <;> omega)).trans (by go_simp)
  have f_p_2 : w2.frozen? ⟨w1.heap.size, 2, none⟩ = false := (hb2.frozen (by simp <;> omega)).trans (by go_simp)
  have z_p := World.block_lt_of_cell? _ _ c_p_0
  clear z_r
  have z_r := World.block_lt_of_cell? _ _ c_r_0
  have hB2 := below_two hB1 hs2
  clear hB1 hs2 hb2
  go_wp2_with fail
  have n_c_r_0 : (w2.setCell ⟨w1.heap.size, 2, none⟩ (.int .i64 o)).cell? ⟨w.heap.size, 0, none⟩ = some (.int .i64 0) := set_far (by omega) c_r_0
  have n_f_r_0 : (w2.setCell ⟨w1.heap.size, 2, none⟩ (.int .i64 o)).frozen? ⟨w.heap.size, 0, none⟩ = false := set_frozen f_r_0
  have n_c_r_1 : (w2.setCell ⟨w1.heap.size, 2, none⟩ (.int .i64 o)).cell? ⟨w.heap.size, 1, none⟩ = some (.int .i64 0) := set_far (by omega) c_r_1
  have n_f_r_1 : (w2.setCell ⟨w1.heap.size, 2, none⟩ (.int .i64 o)).frozen? ⟨w.heap.size, 1, none⟩ = false := set_frozen f_r_1
  have n_c_r_2 : (w2.setCell ⟨w1.heap.size, 2, none⟩ (.int .i64 o)).cell? ⟨w.heap.size, 2, none⟩ = some (.int .i64 0) := set_far (by omega) c_r_2
  have n_f_r_2 : (w2.setCell ⟨w1.heap.size, 2, none⟩ (.int .i64 o)).frozen? ⟨w.heap.size, 2, none⟩ = false := set_frozen f_r_2
  have n_c_p_0 : (w2.setCell ⟨w1.heap.size, 2, none⟩ (.int .i64 o)).cell? ⟨w1.heap.size, 0, none⟩ = some (.int .i64 S) := set_beside (by decide) c_p_0
  have n_f_p_0 : (w2.setCell ⟨w1.heap.size, 2, none⟩ (.int .i64 o)).frozen? ⟨w1.heap.size, 0, none⟩ = false := set_frozen f_p_0
  have n_c_p_1 : (w2.setCell ⟨w1.heap.size, 2, none⟩ (.int .i64 o)).cell? ⟨w1.heap.size, 1, none⟩ = some (.int .i64 A) := set_beside (by decide) c_p_1
  have n_f_p_1 : (w2.setCell ⟨w1.heap.size, 2, none⟩ (.int .i64 o)).frozen? ⟨w1.heap.size, 1, none⟩ = false := set_frozen f_p_1
  have n_c_p_2 : (w2.setCell ⟨w1.heap.size, 2, none⟩ (.int .i64 o)).cell? ⟨w1.heap.size, 2, none⟩ = some (.int .i64 o) := set_same (held_of c_p_2)
  have n_f_p_2 : (w2.setCell ⟨w1.heap.size, 2, none⟩ (.int .i64 o)).frozen? ⟨w1.heap.size, 2, none⟩ = false := set_frozen f_p_2
  have hB3 : Below w.heap.size w (w2.setCell ⟨w1.heap.size, 2, none⟩ (.int .i64 o)) := set1_below hB2 (by omega)
  clear c_r_0 c_r_1 c_r_2 c_p_0 c_p_1 c_p_2 f_r_0 f_r_1 f_r_2 f_p_0 f_p_1 f_p_2 z_p z_r hB2
  generalize (w2.setCell ⟨w1.heap.size, 2, none⟩ (.int .i64 o)) = w3 at *
  go_wp2_with fail
  have hR' := hR.below hB3
  refine (text_yes _ _ _ _ hR' hr).mono ?_
  rintro e w4 ⟨rfl, hb4⟩
  clear hR'
  have hs4 := hb4
  replace n_f_r_0 := frozen_later hs4 n_c_r_0 n_f_r_0
  replace n_c_r_0 := cell_later hs4 n_c_r_0
  replace n_f_r_1 := frozen_later hs4 n_c_r_1 n_f_r_1
  replace n_c_r_1 := cell_later hs4 n_c_r_1
  replace n_f_r_2 := frozen_later hs4 n_c_r_2 n_f_r_2
  replace n_c_r_2 := cell_later hs4 n_c_r_2
  replace n_f_p_0 := frozen_later hs4 n_c_p_0 n_f_p_0
  replace n_c_p_0 := cell_later hs4 n_c_p_0
  replace n_f_p_1 := frozen_later hs4 n_c_p_1 n_f_p_1
  replace n_c_p_1 := cell_later hs4 n_c_p_1
  replace n_f_p_2 := frozen_later hs4 n_c_p_2 n_f_p_2
  replace n_c_p_2 := cell_later hs4 n_c_p_2
  have z_p := World.block_lt_of_cell? _ _ n_c_p_0
  have z_r := World.block_lt_of_cell? _ _ n_c_r_0
  have hB4 := below_two hB3 hs4
  clear hB3 hs4
  rw [HT.out]
  obtain ⟨m0, m1, m2⟩ := put3_of (x := .int .i64 S) (y := .int .i64 A) (z := .int .i64 o) n_c_r_0 n_c_r_1 n_c_r_2
  go_wp2
  exact bodyPost_ret (v := .tuple #[.agg #[.int .i64 S, .int .i64 A, .int .i64 o], .int .i64 0]) (by simp [results, Tryd.results29, go_sem, m0, m1, m2]) rfl ⟨rfl, put3_below hB4 (by omega)⟩

/-- What Read answers. -/
def rdV (x : Option (Int × Int × Int)) : Value := match x with | some (s, a, o) => pv s a o 0 | none => pv 0 0 0 21
theorem extract_drop (s : ByteArray) (k : Nat) : (s.extract k s.size).data.toList = s.data.toList.drop k := by
  rw [ByteArray.data_extract, Array.toList_extract, List.extract_eq_take_drop]
  apply List.take_of_length_le
  rw [List.length_drop]
  have : s.data.toList.length = s.size := rfl
  omega
theorem rd_bytes (s : ByteArray) : Pit.rd s.data.toList = Pit.rdP s := by
  unfold Pit.rd
  congr 1
theorem read_any (s : ByteArray) (w : World) (hR : Ready w) (hs : s.size ≤ 1000) :
    Calls Tryd.prog 29 #[.string s] w fun e w' => e = .returned (rdV (Pit.rd s.data.toList)) ∧ Below w.heap.size w w' := by
  rw [rd_bytes]
  generalize hh : Pit.hd s = X
  obtain ⟨S, A, P0⟩ := X
  have hE : (s.extract P0 s.size).size ≤ 1000 := by rw [ByteArray.size_extract]; omega
  have hd := extract_drop s P0
  unfold Pit.rdP Pit.restOf
  rw [hh]
  show Calls _ _ _ _ fun e w' => e = .returned (rdV (Pit.rdOf (Lib.atoiAll (s.data.toList.drop P0)) S A s.data.toList)) ∧ Below w.heap.size w w'
  rw [← hd]
  cases hx : Lib.atoiAll (s.extract P0 s.size).data.toList
  · rename_i o
    cases hr : Pit.right S A o with
    | false =>
      rw [show Pit.rdOf (.ok o) S A s.data.toList = none by simp [Pit.rdOf, hr]]
      exact read_no s w hR hs S A P0 (Lib.hid hh) _ (Lib.hid rfl) hE o hx hr
    | true =>
      have hR2 := (Pit.right_iff _ _ _).1 hr
      cases hT : (Pit.txt S A o == s.data.toList) with
      | false =>
        rw [show Pit.rdOf (.ok o) S A s.data.toList = none by simp only [Pit.rdOf, hr, hT]; rfl]
        exact read_other s w hR hs S A P0 (Lib.hid hh) _ (Lib.hid rfl) hE o hx hR2 _ (Lib.hid rfl) hT
      | true =>
        rw [show Pit.rdOf (.ok o) S A s.data.toList = some (S, A, o) by simp only [Pit.rdOf, hr, hT]; rfl]
        exact read_yes s w hR hs S A P0 (Lib.hid hh) _ (Lib.hid rfl) hE o hx hR2 _ (Lib.hid rfl) hT
  all_goals exact read_bad s w hR hs S A P0 (Lib.hid hh) _ (Lib.hid rfl) hE (fun v => by rw [hx]; intro e; cases e)
end Go.Proofs.YtoopchnncjfjoaaDoor
