/-
  The contracts of the reference's both, Add, Sub, Mul, Div, Compare and Floor.
-/
import Derived.Test.YtlodhfdikglgoaaRatFacts
namespace Go.Proofs.Ytlodhfdikglgoaa
open Go.RowKit

set_option maxRecDepth 100000 in
set_option maxHeartbeats 2000000 in
theorem refBoth_no (a b c d : Int) (w : World) (ha : Rat.I64 a) (hb : Rat.I64 b) (h1 : Rat.right a b = false) :
    Calls Try.prog 59 #[rt a b, rt c d] w fun e w' => e = .returned (.bool false) ∧ Below w.heap.size w w' := by
  go_enter Try.func59, Try.ntmps59
  go_wp2_with fail
  refine (refRight_any _ _ _ ha hb).mono ?_
  rintro e w2 ⟨rfl, hb2⟩
  rw [h1]
  have hB : Below w.heap.size w w2 := Below.trans (by repeat (first | exact Below.refl _ _ | refine Below.alloc ?_ (by simp <;> omega) _)) (hb2.mono (by simp; omega))
  clear hb2
  go_wp2
  go_ret
  exact ⟨rfl, hB⟩

set_option maxRecDepth 100000 in
set_option maxHeartbeats 2000000 in
theorem refBoth_yes (a b c d : Int) (w : World) (ha : Rat.I64 a) (hb : Rat.I64 b) (hc : Rat.I64 c) (hd : Rat.I64 d) (h1 : Rat.right a b = true) :
    Calls Try.prog 59 #[rt a b, rt c d] w fun e w' => e = .returned (.bool (Rat.right c d)) ∧ Below w.heap.size w w' := by
  go_enter Try.func59, Try.ntmps59
  go_wp2_with fail
  refine (refRight_any _ _ _ ha hb).mono ?_
  rintro e w2 ⟨rfl, hb2⟩
  rw [h1]
  obtain ⟨hcl, hf⟩ := bcell hb2
  go_wp2_with fail
  refine (refRight_any _ _ _ hc hd).mono ?_
  rintro e w3 ⟨rfl, hb3⟩
  clear hcl hf
  have hb := below_two hb2 hb3
  clear hb2 hb3
  have hB : Below w.heap.size w w3 := Below.trans (by repeat (first | exact Below.refl _ _ | refine Below.alloc ?_ (by simp <;> omega) _)) (hb.mono (by simp; omega))
  clear hb
  go_wp2
  go_ret
  exact ⟨rfl, hB⟩

theorem refBoth_any (a b c d : Int) (w : World) (ha : Rat.I64 a) (hb : Rat.I64 b) (hc : Rat.I64 c) (hd : Rat.I64 d) :
    Calls Try.prog 59 #[rt a b, rt c d] w fun e w' => e = .returned (.bool (Rat.right a b && Rat.right c d)) ∧ Below w.heap.size w w' := by
  cases h1 : Rat.right a b
  · exact refBoth_no a b c d w ha hb h1
  · exact refBoth_yes a b c d w ha hb hc hd h1

def addW (a b c d : Int) : Int := wrap64 (wrap64 (a * d) + wrap64 (c * b))
def subW (a b c d : Int) : Int := wrap64 (wrap64 (a * d) - wrap64 (c * b))
theorem addW_eq {a b c d : Int} (ha : -1000000000 ≤ a ∧ a ≤ 1000000000) (hb : -1000000000 ≤ b ∧ b ≤ 1000000000) (hc : -1000000000 ≤ c ∧ c ≤ 1000000000) (hd : -1000000000 ≤ d ∧ d ≤ 1000000000) : addW a b c d = a * d + c * b := by
  have h1 := abs_mul_le ha hd
  have h2 := abs_mul_le hc hb
  unfold addW wrap64; omega
theorem subW_eq {a b c d : Int} (ha : -1000000000 ≤ a ∧ a ≤ 1000000000) (hb : -1000000000 ≤ b ∧ b ≤ 1000000000) (hc : -1000000000 ≤ c ∧ c ≤ 1000000000) (hd : -1000000000 ≤ d ∧ d ≤ 1000000000) : subW a b c d = a * d - c * b := by
  have h1 := abs_mul_le ha hd
  have h2 := abs_mul_le hc hb
  unfold subW wrap64; omega
theorem right_four {a b c d : Int} (h : (Rat.right a b && Rat.right c d) = true) : (-1000000000 ≤ a ∧ a ≤ 1000000000) ∧ (-1000000000 ≤ b ∧ b ≤ 1000000000) ∧ (-1000000000 ≤ c ∧ c ≤ 1000000000) ∧ (-1000000000 ≤ d ∧ d ≤ 1000000000) := by
  obtain ⟨x, y⟩ := (Bool.and_eq_true _ _).mp h
  obtain ⟨p1, p2, p3, p4⟩ := right_bounds ((Rat.right_iff _ _).1 x)
  obtain ⟨q1, q2, q3, q4⟩ := right_bounds ((Rat.right_iff _ _).1 y)
  omega

set_option maxRecDepth 100000 in
set_option maxHeartbeats 2000000 in
theorem refAdd_no (a b c d : Int) (w : World) (ha : Rat.I64 a) (hb : Rat.I64 b) (hc : Rat.I64 c) (hd : Rat.I64 d) (hr : (Rat.right a b && Rat.right c d) = false) :
    Calls Try.prog 45 #[rt a b, rt c d] w fun e w' => e = .returned (rv 0 0 10) ∧ Below w.heap.size w w' := by
  go_enter Try.func45, Try.ntmps45
  go_wp2_with fail
  refine (refBoth_any _ _ _ _ _ ha hb hc hd).mono ?_
  rintro e w2 ⟨rfl, hb2⟩
  rw [hr]
  have c7 : w2.cell? ⟨w.heap.size + 1 + 1, 0, none⟩ = some (.int .i64 0) := (hb2.cell (by simp)).trans (by go_simp)
  have f7 : w2.frozen? ⟨w.heap.size + 1 + 1, 0, none⟩ = false := (hb2.frozen (by simp)).trans (by go_simp)
  have c8 : w2.cell? ⟨w.heap.size + 1 + 1, 1, none⟩ = some (.int .i64 0) := (hb2.cell (by simp)).trans (by go_simp)
  have f8 : w2.frozen? ⟨w.heap.size + 1 + 1, 1, none⟩ = false := (hb2.frozen (by simp)).trans (by go_simp)
  have hB : Below w.heap.size w w2 := Below.trans (by repeat (first | exact Below.refl _ _ | refine Below.alloc ?_ (by simp <;> omega) _)) (hb2.mono (by simp; omega))
  clear hb2
  have m0 := stored_0 (x := .int .i64 0) (y := .int .i64 0) (held_of c7)
  have m1 := stored_1 (x := .int .i64 0) (y := .int .i64 0) (held_of c8)
  go_wp2
  exact bodyPost_ret (v := rv 0 0 10) (by simp [results, Try.results45, go_sem, m0, m1]) rfl ⟨rfl, stored_below hB (by omega)⟩

set_option maxRecDepth 100000 in
set_option maxHeartbeats 2000000 in
theorem refAdd_yes (a b c d : Int) (w : World) (ha : Rat.I64 a) (hb : Rat.I64 b) (hc : Rat.I64 c) (hd : Rat.I64 d) (hr : (Rat.right a b && Rat.right c d) = true) :
    Calls Try.prog 45 #[rt a b, rt c d] w fun e w' => e = .returned (rv (Rat.ofN (addW a b c d) (mulW b d)) (Rat.ofD (addW a b c d) (mulW b d)) (Rat.ofE (addW a b c d) (mulW b d))) ∧ Below w.heap.size w w' := by
  go_enter Try.func45, Try.ntmps45
  go_wp2_with fail
  refine (refBoth_any _ _ _ _ _ ha hb hc hd).mono ?_
  rintro e w2 ⟨rfl, hb2⟩
  rw [hr]
  have c3 : w2.cell? ⟨w.heap.size, 0, none⟩ = some (.int .i64 a) := (hb2.cell (by simp <;> omega)).trans (by go_simp)
  have c4 : w2.cell? ⟨w.heap.size, 1, none⟩ = some (.int .i64 b) := (hb2.cell (by simp <;> omega)).trans (by go_simp)
  have c5 : w2.cell? ⟨w.heap.size + 1, 0, none⟩ = some (.int .i64 c) := (hb2.cell (by simp <;> omega)).trans (by go_simp)
  have c6 : w2.cell? ⟨w.heap.size + 1, 1, none⟩ = some (.int .i64 d) := (hb2.cell (by simp <;> omega)).trans (by go_simp)
  have c7 : w2.cell? ⟨w.heap.size + 1 + 1, 0, none⟩ = some (.int .i64 0) := (hb2.cell (by simp)).trans (by go_simp)
  have f7 : w2.frozen? ⟨w.heap.size + 1 + 1, 0, none⟩ = false := (hb2.frozen (by simp)).trans (by go_simp)
  have c8 : w2.cell? ⟨w.heap.size + 1 + 1, 1, none⟩ = some (.int .i64 0) := (hb2.cell (by simp)).trans (by go_simp)
  have f8 : w2.frozen? ⟨w.heap.size + 1 + 1, 1, none⟩ = false := (hb2.frozen (by simp)).trans (by go_simp)
  have hB : Below w.heap.size w w2 := Below.trans (by repeat (first | exact Below.refl _ _ | refine Below.alloc ?_ (by simp <;> omega) _)) (hb2.mono (by simp; omega))
  clear hb2
  go_wp2_with fail
  refine (refOf_any _ _ _ (i64_wrap64 _) (i64_wrap64 _)).mono ?_
  rintro e w3 ⟨rfl, hb3⟩
  replace hB := below_two hB hb3
  replace f7 := frozen_later hb3 c7 f7
  replace f8 := frozen_later hb3 c8 f8
  replace c7 := cell_later hb3 c7
  replace c8 := cell_later hb3 c8
  clear hb3 c3 c4 c5 c6
  have m0 := stored_0 (x := .int .i64 (Rat.ofN (addW a b c d) (mulW b d))) (y := .int .i64 (Rat.ofD (addW a b c d) (mulW b d))) (held_of c7)
  have m1 := stored_1 (x := .int .i64 (Rat.ofN (addW a b c d) (mulW b d))) (y := .int .i64 (Rat.ofD (addW a b c d) (mulW b d))) (held_of c8)
  unfold addW at m0 m1
  go_wp2
  exact bodyPost_ret (v := rv (Rat.ofN (addW a b c d) (mulW b d)) (Rat.ofD (addW a b c d) (mulW b d)) (Rat.ofE (addW a b c d) (mulW b d))) (by simp only [addW, mulW] at m0 m1 ⊢; simp [results, Try.results45, go_sem, m0, m1]) rfl ⟨rfl, stored_below hB (by omega)⟩

theorem refAdd_any (a b c d : Int) (w : World) (ha : Rat.I64 a) (hb : Rat.I64 b) (hc : Rat.I64 c) (hd : Rat.I64 d) :
    Calls Try.prog 45 #[rt a b, rt c d] w fun e w' => e = .returned (rv (binN (Rat.right a b && Rat.right c d) (a * d + c * b) (b * d)) (binD (Rat.right a b && Rat.right c d) (a * d + c * b) (b * d)) (binE (Rat.right a b && Rat.right c d) (a * d + c * b) (b * d))) ∧ Below w.heap.size w w' := by
  cases hr : (Rat.right a b && Rat.right c d)
  · rw [binN_no, binD_no, binE_no]
    exact refAdd_no a b c d w ha hb hc hd hr
  · have := refAdd_yes a b c d w ha hb hc hd hr
    obtain ⟨qa, qb, qc, qd⟩ := right_four hr
    rw [addW_eq qa qb qc qd, mulW_eq qb qd] at this
    exact this

set_option maxRecDepth 100000 in
set_option maxHeartbeats 2000000 in
theorem refSub_no (a b c d : Int) (w : World) (ha : Rat.I64 a) (hb : Rat.I64 b) (hc : Rat.I64 c) (hd : Rat.I64 d) (hr : (Rat.right a b && Rat.right c d) = false) :
    Calls Try.prog 47 #[rt a b, rt c d] w fun e w' => e = .returned (rv 0 0 10) ∧ Below w.heap.size w w' := by
  go_enter Try.func47, Try.ntmps47
  go_wp2_with fail
  refine (refBoth_any _ _ _ _ _ ha hb hc hd).mono ?_
  rintro e w2 ⟨rfl, hb2⟩
  rw [hr]
  have c7 : w2.cell? ⟨w.heap.size + 1 + 1, 0, none⟩ = some (.int .i64 0) := (hb2.cell (by simp)).trans (by go_simp)
  have f7 : w2.frozen? ⟨w.heap.size + 1 + 1, 0, none⟩ = false := (hb2.frozen (by simp)).trans (by go_simp)
  have c8 : w2.cell? ⟨w.heap.size + 1 + 1, 1, none⟩ = some (.int .i64 0) := (hb2.cell (by simp)).trans (by go_simp)
  have f8 : w2.frozen? ⟨w.heap.size + 1 + 1, 1, none⟩ = false := (hb2.frozen (by simp)).trans (by go_simp)
  have hB : Below w.heap.size w w2 := Below.trans (by repeat (first | exact Below.refl _ _ | refine Below.alloc ?_ (by simp <;> omega) _)) (hb2.mono (by simp; omega))
  clear hb2
  have m0 := stored_0 (x := .int .i64 0) (y := .int .i64 0) (held_of c7)
  have m1 := stored_1 (x := .int .i64 0) (y := .int .i64 0) (held_of c8)
  go_wp2
  exact bodyPost_ret (v := rv 0 0 10) (by simp [results, Try.results47, go_sem, m0, m1]) rfl ⟨rfl, stored_below hB (by omega)⟩

set_option maxRecDepth 100000 in
set_option maxHeartbeats 2000000 in
theorem refSub_yes (a b c d : Int) (w : World) (ha : Rat.I64 a) (hb : Rat.I64 b) (hc : Rat.I64 c) (hd : Rat.I64 d) (hr : (Rat.right a b && Rat.right c d) = true) :
    Calls Try.prog 47 #[rt a b, rt c d] w fun e w' => e = .returned (rv (Rat.ofN (subW a b c d) (mulW b d)) (Rat.ofD (subW a b c d) (mulW b d)) (Rat.ofE (subW a b c d) (mulW b d))) ∧ Below w.heap.size w w' := by
  go_enter Try.func47, Try.ntmps47
  go_wp2_with fail
  refine (refBoth_any _ _ _ _ _ ha hb hc hd).mono ?_
  rintro e w2 ⟨rfl, hb2⟩
  rw [hr]
  have c3 : w2.cell? ⟨w.heap.size, 0, none⟩ = some (.int .i64 a) := (hb2.cell (by simp <;> omega)).trans (by go_simp)
  have c4 : w2.cell? ⟨w.heap.size, 1, none⟩ = some (.int .i64 b) := (hb2.cell (by simp <;> omega)).trans (by go_simp)
  have c5 : w2.cell? ⟨w.heap.size + 1, 0, none⟩ = some (.int .i64 c) := (hb2.cell (by simp <;> omega)).trans (by go_simp)
  have c6 : w2.cell? ⟨w.heap.size + 1, 1, none⟩ = some (.int .i64 d) := (hb2.cell (by simp <;> omega)).trans (by go_simp)
  have c7 : w2.cell? ⟨w.heap.size + 1 + 1, 0, none⟩ = some (.int .i64 0) := (hb2.cell (by simp)).trans (by go_simp)
  have f7 : w2.frozen? ⟨w.heap.size + 1 + 1, 0, none⟩ = false := (hb2.frozen (by simp)).trans (by go_simp)
  have c8 : w2.cell? ⟨w.heap.size + 1 + 1, 1, none⟩ = some (.int .i64 0) := (hb2.cell (by simp)).trans (by go_simp)
  have f8 : w2.frozen? ⟨w.heap.size + 1 + 1, 1, none⟩ = false := (hb2.frozen (by simp)).trans (by go_simp)
  have hB : Below w.heap.size w w2 := Below.trans (by repeat (first | exact Below.refl _ _ | refine Below.alloc ?_ (by simp <;> omega) _)) (hb2.mono (by simp; omega))
  clear hb2
  go_wp2_with fail
  refine (refOf_any _ _ _ (i64_wrap64 _) (i64_wrap64 _)).mono ?_
  rintro e w3 ⟨rfl, hb3⟩
  replace hB := below_two hB hb3
  replace f7 := frozen_later hb3 c7 f7
  replace f8 := frozen_later hb3 c8 f8
  replace c7 := cell_later hb3 c7
  replace c8 := cell_later hb3 c8
  clear hb3 c3 c4 c5 c6
  have m0 := stored_0 (x := .int .i64 (Rat.ofN (subW a b c d) (mulW b d))) (y := .int .i64 (Rat.ofD (subW a b c d) (mulW b d))) (held_of c7)
  have m1 := stored_1 (x := .int .i64 (Rat.ofN (subW a b c d) (mulW b d))) (y := .int .i64 (Rat.ofD (subW a b c d) (mulW b d))) (held_of c8)
  unfold subW at m0 m1
  go_wp2
  exact bodyPost_ret (v := rv (Rat.ofN (subW a b c d) (mulW b d)) (Rat.ofD (subW a b c d) (mulW b d)) (Rat.ofE (subW a b c d) (mulW b d))) (by simp only [subW, mulW] at m0 m1 ⊢; simp [results, Try.results47, go_sem, m0, m1]) rfl ⟨rfl, stored_below hB (by omega)⟩

theorem refSub_any (a b c d : Int) (w : World) (ha : Rat.I64 a) (hb : Rat.I64 b) (hc : Rat.I64 c) (hd : Rat.I64 d) :
    Calls Try.prog 47 #[rt a b, rt c d] w fun e w' => e = .returned (rv (binN (Rat.right a b && Rat.right c d) (a * d - c * b) (b * d)) (binD (Rat.right a b && Rat.right c d) (a * d - c * b) (b * d)) (binE (Rat.right a b && Rat.right c d) (a * d - c * b) (b * d))) ∧ Below w.heap.size w w' := by
  cases hr : (Rat.right a b && Rat.right c d)
  · rw [binN_no, binD_no, binE_no]
    exact refSub_no a b c d w ha hb hc hd hr
  · have := refSub_yes a b c d w ha hb hc hd hr
    obtain ⟨qa, qb, qc, qd⟩ := right_four hr
    rw [subW_eq qa qb qc qd, mulW_eq qb qd] at this
    exact this

set_option maxRecDepth 100000 in
set_option maxHeartbeats 2000000 in
theorem refCompare_no (a b c d : Int) (w : World) (ha : Rat.I64 a) (hb : Rat.I64 b) (hc : Rat.I64 c) (hd : Rat.I64 d) (hr : (Rat.right a b && Rat.right c d) = false) :
    Calls Try.prog 46 #[rt a b, rt c d] w fun e w' => e = .returned (.int .i64 0) ∧ Below w.heap.size w w' := by
  go_enter Try.func46, Try.ntmps46
  go_wp2_with fail
  refine (refBoth_any _ _ _ _ _ ha hb hc hd).mono ?_
  rintro e w2 ⟨rfl, hb2⟩
  rw [hr]
  have hB : Below w.heap.size w w2 := Below.trans (by repeat (first | exact Below.refl _ _ | refine Below.alloc ?_ (by simp <;> omega) _)) (hb2.mono (by simp; omega))
  clear hb2
  go_wp2
  go_ret
  exact ⟨rfl, hB⟩

set_option maxRecDepth 100000 in
set_option maxHeartbeats 2000000 in
theorem refCompare_yes (a b c d x y r : Int) (w : World) (ha : Rat.I64 a) (hb : Rat.I64 b) (hc : Rat.I64 c) (hd : Rat.I64 d) (hr : (Rat.right a b && Rat.right c d) = true) (e1 : wrap64 (a * d) = x) (e2 : wrap64 (c * b) = y)
    (h : (x < y ∧ r = -1) ∨ (y < x ∧ r = 1) ∨ (x = y ∧ r = 0)) :
    Calls Try.prog 46 #[rt a b, rt c d] w fun e w' => e = .returned (.int .i64 r) ∧ Below w.heap.size w w' := by
  go_enter Try.func46, Try.ntmps46
  go_wp2_with fail
  refine (refBoth_any _ _ _ _ _ ha hb hc hd).mono ?_
  rintro e w2 ⟨rfl, hb2⟩
  rw [hr]
  have c3 : w2.cell? ⟨w.heap.size, 0, none⟩ = some (.int .i64 a) := (hb2.cell (by simp <;> omega)).trans (by go_simp)
  have c4 : w2.cell? ⟨w.heap.size, 1, none⟩ = some (.int .i64 b) := (hb2.cell (by simp <;> omega)).trans (by go_simp)
  have c5 : w2.cell? ⟨w.heap.size + 1, 0, none⟩ = some (.int .i64 c) := (hb2.cell (by simp <;> omega)).trans (by go_simp)
  have c6 : w2.cell? ⟨w.heap.size + 1, 1, none⟩ = some (.int .i64 d) := (hb2.cell (by simp <;> omega)).trans (by go_simp)
  have hB : Below w.heap.size w w2 := Below.trans (by repeat (first | exact Below.refl _ _ | refine Below.alloc ?_ (by simp <;> omega) _)) (hb2.mono (by simp; omega))
  clear hb2
  rcases h with ⟨h, rfl⟩ | ⟨h, rfl⟩ | ⟨h, rfl⟩
  · go_wp2
    go_ret
    exact ⟨rfl, hB⟩
  · have h' : ¬ x < y := by omega
    go_wp2
    go_ret
    exact ⟨rfl, hB⟩
  · subst h
    go_wp2
    go_ret
    exact ⟨rfl, hB⟩

theorem refCompare_any (a b c d : Int) (w : World) (ha : Rat.I64 a) (hb : Rat.I64 b) (hc : Rat.I64 c) (hd : Rat.I64 d) :
    Calls Try.prog 46 #[rt a b, rt c d] w fun e w' => e = .returned (.int .i64 (cmpV (Rat.right a b && Rat.right c d) (a * d - c * b))) ∧ Below w.heap.size w w' := by
  cases hr : (Rat.right a b && Rat.right c d)
  · exact refCompare_no a b c d w ha hb hc hd hr
  · obtain ⟨qa, qb, qc, qd⟩ := right_four hr
    have e1 : wrap64 (a * d) = a * d := mulW_eq qa qd
    have e2 : wrap64 (c * b) = c * b := mulW_eq qc qb
    refine refCompare_yes a b c d _ _ _ w ha hb hc hd hr e1 e2 ?_
    show _ ∨ _ ∨ _
    unfold cmpV
    rw [if_pos rfl]
    rcases sgn_cases (a * d - c * b) with ⟨h, e⟩ | ⟨h, e⟩ | ⟨h, e⟩ <;> rw [e]
    · left; omega
    · right; right; omega
    · right; left; omega

theorem tdiv_mul {n d : Int} (d1 : 1 ≤ d) (n1 : -1000000000 ≤ n) (n2 : n ≤ 1000000000) : wrap64 (n.tdiv d * d) = n.tdiv d * d ∧ n.tdiv d * d + n.tmod d = n := by
  have h := Int.tdiv_mul_add_tmod n d
  have hc := floor_cases (n := n) d1
  have hm : -1000000000 ≤ n.tdiv d * d ∧ n.tdiv d * d ≤ 1000000000 := by
    have := Int.emod_nonneg n (show d ≠ 0 by omega)
    have := Int.emod_lt_of_pos n (show 0 < d by omega)
    have e := Int.mul_ediv_add_emod n d
    by_cases hn : 0 ≤ n
    · have : n.tmod d = n % d := Int.tmod_eq_emod_of_nonneg hn
      have h2 : 0 ≤ n / d := Int.ediv_nonneg hn (by omega)
      have h3 : 0 ≤ d * (n / d) := Int.mul_nonneg (by omega) h2
      have h4 := floor_up (n := n) d1 (by omega)
      rw [h4, Int.mul_comm]; omega
    · have h5 := Int.neg_tdiv (a := -n) (b := d)
      have h6 := Int.neg_tmod (a := -n) (b := d)
      rw [Int.neg_neg] at h5 h6
      have h7 := Int.tdiv_eq_ediv_of_nonneg (a := -n) (b := d) (by omega)
      have e2 := Int.mul_ediv_add_emod (-n) d
      have := Int.emod_nonneg (-n) (show d ≠ 0 by omega)
      have := Int.emod_lt_of_pos (-n) (show 0 < d by omega)
      have h2 : 0 ≤ (-n) / d := Int.ediv_nonneg (by omega) (by omega)
      have h3 : 0 ≤ d * ((-n) / d) := Int.mul_nonneg (by omega) h2
      have h8 : n.tdiv d * d = -(d * ((-n) / d)) := by rw [h5, h7]; grind
      rw [h8]; omega
  exact ⟨by unfold wrap64; omega, by omega⟩

end Go.Proofs.Ytlodhfdikglgoaa
