/-
  The contracts of ratio.Compare and ratio.Floor.
-/
import Derived.Test.YtlodhfdikglgoaaRatF
namespace Go.Proofs.Ytlodhfdikglgoaa
open Go.RowKit

theorem field_sum (b : Nat) (w : World) : (Instr.field 64 (deedSum b) 0).run Try.prog w = .ok (.func (.func 60) #[] #[.pointer (some ⟨b, 0, none⟩)]) w := by kernel_rfl

/-- What Compare answers. -/
def cmpV (r : Bool) (x : Int) : Int := if r then Rat.sgn x else 0

set_option maxHeartbeats 1000000 in
theorem cmp0_any (x : Int) (w : World) :
    Calls Try.prog 55 #[.int .i64 x, .int .i64 0] w fun e w' => e = .returned (.int .i64 (Rat.sgn x)) ∧ w = w' := by
  by_cases h1 : x < 0
  · have e1 : Rat.sgn x = -1 := by unfold Rat.sgn; rw [if_pos h1]
    rw [e1]
    go_enter Try.func55, Try.ntmps55
    go_wp2
    go_ret
    exact ⟨rfl, rfl⟩
  by_cases h2 : x = 0
  · subst h2
    go_enter Try.func55, Try.ntmps55
    go_wp2
    go_ret
    exact ⟨rfl, rfl⟩
  · have e1 : Rat.sgn x = 1 := by unfold Rat.sgn; rw [if_neg h1, if_neg h2]
    have h3 : 0 < x := by omega
    rw [e1]
    go_enter Try.func55, Try.ntmps55
    go_wp2
    go_ret
    exact ⟨rfl, rfl⟩

set_option maxRecDepth 100000 in
set_option maxHeartbeats 2000000 in
theorem compare_no1 (a b c d : Int) (w : World) (h1 : Rat.right a b = false) :
    Calls Try.prog 32 #[rt a b, rt c d] w fun e w' => e = .returned (.int .i64 0) ∧ Below w.heap.size w w' := by
  go_enter Try.func32, Try.ntmps32
  go_wp2_with fail
  refine (ratio_right _ _ _).mono ?_
  rintro e w2 ⟨rfl, hb⟩
  have hB : Below w.heap.size w w2 := Below.trans (by repeat (first | exact Below.refl _ _ | refine Below.alloc ?_ (by simp <;> omega) _)) (hb.mono (by simp; omega))
  clear hb
  go_wp2
  go_ret
  exact ⟨rfl, hB⟩

set_option maxRecDepth 100000 in
set_option maxHeartbeats 2000000 in
theorem compare_no2 (a b c d : Int) (w : World) (h1 : Rat.right a b = true) (h2 : Rat.right c d = false) :
    Calls Try.prog 32 #[rt a b, rt c d] w fun e w' => e = .returned (.int .i64 0) ∧ Below w.heap.size w w' := by
  go_enter Try.func32, Try.ntmps32
  go_wp2_with fail
  refine (ratio_right _ _ _).mono ?_
  rintro e w1 ⟨rfl, hb1⟩
  obtain ⟨hc, hf⟩ := bcell hb1
  go_wp2_with fail
  refine (ratio_right _ _ _).mono ?_
  rintro e w2 ⟨rfl, hb2⟩
  clear hc hf
  have hb := below_two hb1 hb2
  clear hb1 hb2
  have hB : Below w.heap.size w w2 := Below.trans (by repeat (first | exact Below.refl _ _ | refine Below.alloc ?_ (by simp <;> omega) _)) (hb.mono (by simp; omega))
  clear hb
  go_wp2
  go_ret
  exact ⟨rfl, hB⟩

set_option maxRecDepth 100000 in
set_option maxHeartbeats 2000000 in
theorem compare_yes (a b c d : Int) (w : World) (h1 : Rat.right a b = true) (h2 : Rat.right c d = true) :
    Calls Try.prog 32 #[rt a b, rt c d] w fun e w' => e = .returned (.int .i64 (Rat.sgn (sumW (-1) a b c d))) ∧ Below w.heap.size w w' := by
  have hfld := field_sum
  go_enter Try.func32, Try.ntmps32
  go_wp2_with fail
  refine (ratio_right _ _ _).mono ?_
  rintro e w1 ⟨rfl, hb1⟩
  obtain ⟨hc, hf⟩ := bcell hb1
  go_wp2_with fail
  refine (ratio_right _ _ _).mono ?_
  rintro e w2 ⟨rfl, hb2⟩
  clear hc hf
  have hb := below_two hb1 hb2
  clear hb1 hb2
  have hB : Below w.heap.size w w2 := Below.trans (by repeat (first | exact Below.refl _ _ | refine Below.alloc ?_ (by simp <;> omega) _)) (hb.mono (by simp; omega))
  have c3 : w2.cell? ⟨w.heap.size, 0, none⟩ = some (.int .i64 a) := (hb.cell (by simp <;> omega)).trans (by go_simp)
  have c4 : w2.cell? ⟨w.heap.size, 1, none⟩ = some (.int .i64 b) := (hb.cell (by simp <;> omega)).trans (by go_simp)
  have c5 : w2.cell? ⟨w.heap.size + 1, 0, none⟩ = some (.int .i64 c) := (hb.cell (by simp <;> omega)).trans (by go_simp)
  have c6 : w2.cell? ⟨w.heap.size + 1, 1, none⟩ = some (.int .i64 d) := (hb.cell (by simp <;> omega)).trans (by go_simp)
  clear hb
  go_wp2_with fail
  go_region_held3 (fun w' => w'.cell? ⟨w.heap.size, 0, none⟩ = some (.int .i64 a) ∧ w'.cell? ⟨w.heap.size, 1, none⟩ = some (.int .i64 b) ∧ w'.cell? ⟨w.heap.size + 1, 0, none⟩ = some (.int .i64 c) ∧ w'.cell? ⟨w.heap.size + 1, 1, none⟩ = some (.int .i64 d) ∧ Below w.heap.size w w')
    (((try go_split_ands); refine ⟨?_, ?_, ?_, ?_, ?_⟩ <;> first | assumption | (refine cell_later hq ?_; assumption) | (refine below_two ?_ hq; assumption) | exact c3 | exact c4 | exact c5 | exact c6 | exact hB.drew))
    (first
      | (go_at_call 49; refine (sum_any _ _).mono ?_; rintro e w' ⟨bk, rfl, hk, hq⟩)
      | (go_at_call 60; refine (sum1_any _ _ _ _ (-1) bk _ hk).mono ?_; rintro e w' ⟨rfl, hq⟩)
      | (go_at_call 55; refine (cmp0_any _ _).mono ?_; rintro e w' ⟨rfl, rfl⟩))
  rename_i hS
  obtain ⟨-, -, -, -, hBl⟩ := hS
  go_wp2
  go_ret
  exact ⟨rfl, hBl⟩

theorem compare_any (a b c d : Int) (w : World) :
    Calls Try.prog 32 #[rt a b, rt c d] w fun e w' => e = .returned (.int .i64 (cmpV (Rat.right a b && Rat.right c d) (a * d - c * b))) ∧ Below w.heap.size w w' := by
  cases h1 : Rat.right a b
  · exact compare_no1 a b c d w h1
  · cases h2 : Rat.right c d
    · exact compare_no2 a b c d w h1 h2
    · have := compare_yes a b c d w h1 h2
      have hx := (Rat.right_iff _ _).1 h1
      have hy := (Rat.right_iff _ _).1 h2
      have hM := Rat.M_eq
      have ha : -1000000000 ≤ a ∧ a ≤ 1000000000 := ⟨by have := hx.n0; omega, by have := hx.nM; omega⟩
      have hb : -1000000000 ≤ b ∧ b ≤ 1000000000 := ⟨by have := hx.d1; omega, by have := hx.dM; omega⟩
      have hc : -1000000000 ≤ c ∧ c ≤ 1000000000 := ⟨by have := hy.n0; omega, by have := hy.nM; omega⟩
      have hd : -1000000000 ≤ d ∧ d ≤ 1000000000 := ⟨by have := hy.d1; omega, by have := hy.dM; omega⟩
      rw [sumW_neg ha hb hc hd] at this
      exact this

/-- What Floor answers. -/
def floorE (r : Bool) : Int := if r then 0 else 10
def floorV (r : Bool) (n d : Int) : Int := if r then n / d else 0

theorem ret_two {a b : Int} {y : Value} (h : a = b) : Ending.returned (.tuple #[.int .i64 a, y]) = .returned (.tuple #[.int .i64 b, y]) := by rw [h]
theorem floor_cases {n d : Int} (hd : 1 ≤ d) : (n.tdiv d = n / d ∧ 0 ≤ n.tmod d) ∨ (n.tdiv d = n / d + 1 ∧ n.tmod d < 0) := by
  have h1 := Int.tdiv_eq_ediv (a := n) (b := d)
  have h2 := Int.tmod_eq_emod (a := n) (b := d)
  have h3 := Int.emod_nonneg n (show d ≠ 0 by omega)
  have h4 := Int.emod_lt_of_pos n (show 0 < d by omega)
  by_cases hc : 0 ≤ n ∨ d ∣ n
  · rw [if_pos hc] at h1 h2; left; omega
  · rw [if_neg hc] at h1 h2
    have hs : d.sign = 1 := Int.sign_eq_one_of_pos (by omega)
    right; omega
theorem floor_up {n d : Int} (hd : 1 ≤ d) (ht : 0 ≤ n.tmod d) : n.tdiv d = n / d := by
  rcases floor_cases (n := n) hd with h | h <;> omega
theorem floor_bounds {n d : Int} (d1 : 1 ≤ d) (n1 : -1000000000 ≤ n) (n2 : n ≤ 1000000000) : -1000000000 ≤ n / d ∧ n / d ≤ 1000000000 := by
  have a := (Int.le_ediv_iff_mul_le (a := -1000000000) (b := n) (c := d) (by omega)).2 (by omega)
  have b := (Int.ediv_lt_iff_lt_mul (a := n) (b := 1000000001) (c := d) (by omega)).2 (by omega)
  omega
theorem floor_down {n d : Int} (d1 : 1 ≤ d) (_d2 : d ≤ 1000000000) (n1 : -1000000000 ≤ n) (n2 : n ≤ 1000000000) (ht : n.tmod d < 0) : wrap64 (n.tdiv d - 1) = n / d := by
  have := floor_bounds d1 n1 n2
  have e : n.tdiv d - 1 = n / d := by rcases floor_cases (n := n) d1 with h | h <;> omega
  rw [e]; unfold wrap64; omega

end Go.Proofs.Ytlodhfdikglgoaa
