/-
  Out of layer 1: the contracts of ratio.Add, Sub, Compare, Mul, Right.
-/
import Derived.Test.YtobhmiknlbjmkaaDoorEvVal
namespace Go.Proofs.YtobhmiknlbjmkaaDoor
open Go.RowKit

/-- What Right answers in each way. -/
theorem rt_right_d1 {n d : Int} (h : d < 1) : Rat.right n d = false := by unfold Rat.right; simp; omega

theorem right_dM {n d : Int} (h : 1000000000 < d) : Rat.right n d = false := by have := Rat.M_eq; unfold Rat.right; simp; omega

theorem rt_right_n0 {n d : Int} (h : n < -1000000000) : Rat.right n d = false := by have := Rat.M_eq; unfold Rat.right; simp; omega

theorem right_nM {n d : Int} (h : 1000000000 < n) : Rat.right n d = false := by have := Rat.M_eq; unfold Rat.right; simp; omega

theorem rt_right_in {n d : Int} (h1 : 1 ≤ d) (h2 : d ≤ 1000000000) (h3 : -1000000000 ≤ n) (h4 : n ≤ 1000000000) : Rat.right n d = decide (Nat.gcd n.natAbs d.natAbs = 1) := by
  have := Rat.M_eq; unfold Rat.right; rw [decide_eq_decide]; exact ⟨fun h => h.2.2.2.2, fun h => ⟨by omega, by omega, by omega, by omega, h⟩⟩

theorem magnitude_q (n : Int) (w : World) (k : Nat) (h : Rat.I64 n) :
    Calls Tryd.prog 35 #[.int .i64 n] (w.drewN k) fun e w' => e = .returned (.int .u64 (n.natAbs : Int)) ∧ ∃ m, w' = w.drewN m :=
  (magnitude_any n _ h).mono fun _ _ ⟨he, hw⟩ => ⟨he, k, hw.symm⟩

theorem divisor_q (a b : Nat) (w : World) (k : Nat) (ha : U64 a) (hb : U64 b) :
    Calls Tryd.prog 36 #[.int .u64 (a : Int), .int .u64 (b : Int)] (w.drewN k) fun e w' => e = .returned (.int .u64 (Nat.gcd a b : Nat)) ∧ ∃ m, w' = w.drewN m :=
  Calls.quiet_of (divisor_any a b _ ha hb)

theorem beq_one (g : Nat) : ((g : Int) == 1) = decide (g = 1) := by rw [Bool.eq_iff_iff]; simp; omega

set_option maxHeartbeats 1000000 in
theorem rt_right_no (n d : Int) (w : World) (h : d < 1 ∨ (1 ≤ d ∧ 1000000000 < d) ∨ (1 ≤ d ∧ d ≤ 1000000000 ∧ n < -1000000000) ∨ (1 ≤ d ∧ d ≤ 1000000000 ∧ -1000000000 ≤ n ∧ 1000000000 < n)) :
    Calls Tryd.prog 33 #[rt n d] w fun e w' => e = .returned (.bool (Rat.right n d)) ∧ Below w.heap.size w w' := by
  rcases h with h | ⟨h1, h⟩ | ⟨h1, h2, h⟩ | ⟨h1, h2, h3, h⟩
  · rw [rt_right_d1 h]
    go_enter Tryd.func33, Tryd.ntmps33
    go_wp2
    go_ret
    exact ⟨rfl, (by repeat (first | exact Below.refl _ _ | refine below_drewN ?_ _ | refine Below.drew ?_ | refine Below.setCell ?_ (by simp) _ | refine Below.alloc ?_ (by simp) _))⟩
  · rw [right_dM h]
    go_enter Tryd.func33, Tryd.ntmps33
    go_wp2
    go_ret
    exact ⟨rfl, (by repeat (first | exact Below.refl _ _ | refine below_drewN ?_ _ | refine Below.drew ?_ | refine Below.setCell ?_ (by simp) _ | refine Below.alloc ?_ (by simp) _))⟩
  · rw [rt_right_n0 h]
    go_enter Tryd.func33, Tryd.ntmps33
    go_wp2
    go_ret
    exact ⟨rfl, (by repeat (first | exact Below.refl _ _ | refine below_drewN ?_ _ | refine Below.drew ?_ | refine Below.setCell ?_ (by simp) _ | refine Below.alloc ?_ (by simp) _))⟩
  · rw [right_nM h]
    go_enter Tryd.func33, Tryd.ntmps33
    go_wp2
    go_ret
    exact ⟨rfl, (by repeat (first | exact Below.refl _ _ | refine below_drewN ?_ _ | refine Below.drew ?_ | refine Below.setCell ?_ (by simp) _ | refine Below.alloc ?_ (by simp) _))⟩

theorem i64_small {n : Int} (h3 : -1000000000 ≤ n) (h4 : n ≤ 1000000000) : Rat.I64 n := by unfold Rat.I64; omega

set_option maxHeartbeats 1000000 in
theorem rt_right_yes (n d : Int) (w : World) (h1 : 1 ≤ d) (h2 : d ≤ 1000000000) (h3 : -1000000000 ≤ n) (h4 : n ≤ 1000000000) :
    Calls Tryd.prog 33 #[rt n d] w fun e w' => e = .returned (.bool (Rat.right n d)) ∧ Below w.heap.size w w' := by
  have hn := i64_small h3 h4
  have hd : Rat.I64 d := i64_small (by omega) h2
  have HR := Lib.hid (rt_right_in h1 h2 h3 h4)
  go_enter Tryd.func33, Tryd.ntmps33
  go_wp2
  go_quiet ((first
    | (go_at_call 35; first | exact magnitude_q _ _ _ hn | exact magnitude_q _ _ _ hd)
    | (go_at_call 36; exact divisor_q _ _ _ _ (u64_abs hn) (u64_abs hd))))
  go_wp2
  go_ret
  exact ⟨ret_bool (by rw [HR.out]; exact beq_one _), (by repeat (first | exact Below.refl _ _ | refine below_drewN ?_ _ | refine Below.drew ?_ | refine Below.setCell ?_ (by simp) _ | refine Below.alloc ?_ (by simp) _))⟩

theorem ratio_right (n d : Int) (w : World) :
    Calls Tryd.prog 33 #[rt n d] w fun e w' => e = .returned (.bool (Rat.right n d)) ∧ Below w.heap.size w w' := by
  by_cases h1 : d < 1
  · exact rt_right_no n d w (Or.inl h1)
  by_cases h2 : 1000000000 < d
  · exact rt_right_no n d w (Or.inr (Or.inl ⟨by omega, h2⟩))
  by_cases h3 : n < -1000000000
  · exact rt_right_no n d w (Or.inr (Or.inr (Or.inl ⟨by omega, by omega, h3⟩)))
  by_cases h4 : 1000000000 < n
  · exact rt_right_no n d w (Or.inr (Or.inr (Or.inr ⟨by omega, by omega, by omega, h4⟩)))
  exact rt_right_yes n d w (by omega) (by omega) (by omega) (by omega)

/-- The two functions of a deed. -/
abbrev deedSum (b : Nat) : Value := .agg #[.func (.func 55) #[] #[.pointer (some ⟨b, 0, none⟩)], .func (.func 56) #[] #[]]

abbrev deedProduct : Value := .agg #[.func (.func 96) #[] #[], .func (.func 97) #[] #[]]

def SumPost (k : Int) (w : World) (e : Ending) (w' : World) : Prop := ∃ b, e = .returned (deedSum b) ∧ w'.cell? ⟨b, 0, none⟩ = some (.int .i64 k) ∧ Below w.heap.size w w'

set_option maxHeartbeats 1000000 in
theorem sum_any (k : Int) (w : World) :
    Calls Tryd.prog 32 #[.int .i64 k] w (SumPost k w) := by
  go_enter Tryd.func32, Tryd.ntmps32
  go_wp2
  refine bodyPost_ret (v := deedSum w.heap.size) (by simp [results, Tryd.results32, go_sem]) rfl ⟨w.heap.size, rfl, by go_simp, ?_⟩
  (repeat (first | exact Below.refl _ _ | refine below_drewN ?_ _ | refine Below.drew ?_ | refine Below.setCell ?_ (by simp) _ | refine Below.alloc ?_ (by simp) _))

set_option maxHeartbeats 1000000 in
theorem product_any (w : World) :
    Calls Tryd.prog 91 #[] w fun e w' => e = .returned deedProduct ∧ Below w.heap.size w w' := by
  go_enter Tryd.func91, Tryd.ntmps91
  go_wp2
  refine bodyPost_ret (v := deedProduct) (by simp [results, Tryd.results91, go_sem]) rfl ⟨rfl, ?_⟩
  (repeat (first | exact Below.refl _ _ | refine below_drewN ?_ _ | refine Below.drew ?_ | refine Below.setCell ?_ (by simp) _ | refine Below.alloc ?_ (by simp) _))

/-- What the closures come to, in 64 bits. -/
def sumW (k a b c d : Int) : Int := wrap64 (wrap64 (a * d) + wrap64 (wrap64 (k * c) * b))

def mulW (a b : Int) : Int := wrap64 (a * b)

set_option maxHeartbeats 1000000 in
theorem sum1_any (a b c d k : Int) (p : Nat) (w : World) (hk : w.cell? ⟨p, 0, none⟩ = some (.int .i64 k)) :
    Calls Tryd.prog 55 #[rt a b, rt c d, .pointer (some ⟨p, 0, none⟩)] w fun e w' => e = .returned (.int .i64 (sumW k a b c d)) ∧ Below w.heap.size w w' := by
  have hp := World.block_lt_of_cell? w _ hk
  go_enter Tryd.func55, Tryd.ntmps55
  go_wp2
  go_ret
  exact ⟨rfl, (by repeat (first | exact Below.refl _ _ | refine below_drewN ?_ _ | refine Below.drew ?_ | refine Below.setCell ?_ (by simp) _ | refine Below.alloc ?_ (by simp) _))⟩

set_option maxHeartbeats 1000000 in
theorem sum2_any (a b c d : Int) (w : World) :
    Calls Tryd.prog 56 #[rt a b, rt c d] w fun e w' => e = .returned (.int .i64 (mulW b d)) ∧ Below w.heap.size w w' := by
  go_enter Tryd.func56, Tryd.ntmps56
  go_wp2
  go_ret
  exact ⟨rfl, (by repeat (first | exact Below.refl _ _ | refine below_drewN ?_ _ | refine Below.drew ?_ | refine Below.setCell ?_ (by simp) _ | refine Below.alloc ?_ (by simp) _))⟩

set_option maxHeartbeats 1000000 in
theorem product1_any (a b c d : Int) (w : World) :
    Calls Tryd.prog 96 #[rt a b, rt c d] w fun e w' => e = .returned (.int .i64 (mulW a c)) ∧ Below w.heap.size w w' := by
  go_enter Tryd.func96, Tryd.ntmps96
  go_wp2
  go_ret
  exact ⟨rfl, (by repeat (first | exact Below.refl _ _ | refine below_drewN ?_ _ | refine Below.drew ?_ | refine Below.setCell ?_ (by simp) _ | refine Below.alloc ?_ (by simp) _))⟩

set_option maxHeartbeats 1000000 in
theorem product2_any (a b c d : Int) (w : World) :
    Calls Tryd.prog 97 #[rt a b, rt c d] w fun e w' => e = .returned (.int .i64 (mulW b d)) ∧ Below w.heap.size w w' := by
  go_enter Tryd.func97, Tryd.ntmps97
  go_wp2
  go_ret
  exact ⟨rfl, (by repeat (first | exact Below.refl _ _ | refine below_drewN ?_ _ | refine Below.drew ?_ | refine Below.setCell ?_ (by simp) _ | refine Below.alloc ?_ (by simp) _))⟩

theorem abs_mul_le {a b : Int} (ha : -1000000000 ≤ a ∧ a ≤ 1000000000) (hb : -1000000000 ≤ b ∧ b ≤ 1000000000) : -1000000000000000000 ≤ a * b ∧ a * b ≤ 1000000000000000000 := by
  have h : (a * b).natAbs ≤ 1000000000 * 1000000000 := by rw [Int.natAbs_mul]; exact Nat.mul_le_mul (by omega) (by omega)
  omega

theorem mulW_eq {a b : Int} (ha : -1000000000 ≤ a ∧ a ≤ 1000000000) (hb : -1000000000 ≤ b ∧ b ≤ 1000000000) : mulW a b = a * b := by
  have := abs_mul_le ha hb
  unfold mulW wrap64; omega

theorem sumW_one {a b c d : Int} (ha : -1000000000 ≤ a ∧ a ≤ 1000000000) (hb : -1000000000 ≤ b ∧ b ≤ 1000000000) (hc : -1000000000 ≤ c ∧ c ≤ 1000000000) (hd : -1000000000 ≤ d ∧ d ≤ 1000000000) : sumW 1 a b c d = a * d + c * b := by
  have h1 := abs_mul_le ha hd
  have h2 := abs_mul_le hc hb
  have e1 : wrap64 (1 * c) = c := by unfold wrap64; omega
  unfold sumW; rw [e1]; unfold wrap64; omega

theorem sumW_neg {a b c d : Int} (ha : -1000000000 ≤ a ∧ a ≤ 1000000000) (hb : -1000000000 ≤ b ∧ b ≤ 1000000000) (hc : -1000000000 ≤ c ∧ c ≤ 1000000000) (hd : -1000000000 ≤ d ∧ d ≤ 1000000000) : sumW (-1) a b c d = a * d - c * b := by
  have h1 := abs_mul_le ha hd
  have h2 := abs_mul_le hc hb
  have e1 : wrap64 (-1 * c) = -c := by unfold wrap64; omega
  have e2 : -c * b = -(c * b) := Int.neg_mul _ _
  unfold sumW; rw [e1, e2]; unfold wrap64; omega

theorem i64_sumW (k a b c d : Int) : Rat.I64 (sumW k a b c d) := i64_wrap64 _

theorem i64_mulW (a b : Int) : Rat.I64 (mulW a b) := i64_wrap64 _

/-- What a deed answers: ErrRatio, if one of both is not right; else what Of answers. -/
def binE (r : Bool) (n d : Int) : Int := if r then Rat.ofE n d else 10

def binN (r : Bool) (n d : Int) : Int := if r then Rat.ofN n d else 0

def binD (r : Bool) (n d : Int) : Int := if r then Rat.ofD n d else 0

theorem stored_far {w : World} {B b o : Nat} {x y v : Value} (h : b ≠ B) (hc : w.cell? ⟨b, o, none⟩ = some v) : ((w.setCell ⟨B, 0, none⟩ x).setCell ⟨B, 1, none⟩ y).cell? ⟨b, o, none⟩ = some v := by
  rw [World.cell?_setCell_far _ _ _ _ (Ne.symm h), World.cell?_setCell_far _ _ _ _ (Ne.symm h)]; exact hc

theorem stored_held {w : World} {B o : Nat} {x y : Value} (h : w.cell? ⟨B, o, none⟩ = some (heldAt w ⟨B, o, none⟩)) :
    ((w.setCell ⟨B, 0, none⟩ x).setCell ⟨B, 1, none⟩ y).cell? ⟨B, o, none⟩ = some (heldAt ((w.setCell ⟨B, 0, none⟩ x).setCell ⟨B, 1, none⟩ y) ⟨B, o, none⟩) := by
  obtain ⟨v1, h1⟩ := cell?_setCell_some (p := ⟨B, 0, none⟩) (x := x) h
  obtain ⟨v2, h2⟩ := cell?_setCell_some (p := ⟨B, 1, none⟩) (x := y) h1
  exact held_of h2

theorem stored_frozen {w : World} {B : Nat} {x y : Value} {a : Addr} (h : w.frozen? a = false) : ((w.setCell ⟨B, 0, none⟩ x).setCell ⟨B, 1, none⟩ y).frozen? a = false := by
  rw [World.frozen?_setCell, World.frozen?_setCell]; exact h

theorem stored_below {n B : Nat} {w W : World} {x y : Value} (h : Below n w W) (hB : n ≤ B) : Below n w ((W.setCell ⟨B, 0, none⟩ x).setCell ⟨B, 1, none⟩ y) := (h.setCell hB _).setCell hB _

theorem stored_0 {w : World} {B : Nat} {x y : Value} (h : w.cell? ⟨B, 0, none⟩ = some (heldAt w ⟨B, 0, none⟩)) : ((w.setCell ⟨B, 0, none⟩ x).setCell ⟨B, 1, none⟩ y).cell? ⟨B, 0, none⟩ = some x := by
  rw [World.cell?_setCell_other _ _ _ _ (by simp)]; exact World.cell?_setCell_same' _ _ _ (by rw [h]; rfl)

theorem stored_1 {w : World} {B : Nat} {x y : Value} (h : w.cell? ⟨B, 1, none⟩ = some (heldAt w ⟨B, 1, none⟩)) : ((w.setCell ⟨B, 0, none⟩ x).setCell ⟨B, 1, none⟩ y).cell? ⟨B, 1, none⟩ = some y := by
  obtain ⟨v1, h1⟩ := cell?_setCell_some (p := ⟨B, 0, none⟩) (x := x) h
  exact World.cell?_setCell_same' _ _ _ (by rw [h1]; rfl)

set_option maxRecDepth 100000 in
set_option maxHeartbeats 2000000 in
theorem apply_sum_yes (a b c d k : Int) (p : Nat) (w : World) (hk : w.cell? ⟨p, 0, none⟩ = some (.int .i64 k)) (h1 : Rat.right a b = true) (h2 : Rat.right c d = true) :
    Calls Tryd.prog 31 #[deedSum p, rt a b, rt c d] w fun e w' => e = .returned (rv (Rat.ofN (sumW k a b c d) (mulW b d)) (Rat.ofD (sumW k a b c d) (mulW b d)) (Rat.ofE (sumW k a b c d) (mulW b d))) ∧ Below w.heap.size w w' := by
  have hp := World.block_lt_of_cell? w _ hk
  go_enter Tryd.func31, Tryd.ntmps31
  go_wp2_with fail
  refine (ratio_right _ _ _).mono ?_
  rintro e w1 ⟨rfl, hb1⟩
  obtain ⟨hc, hf⟩ := bcell hb1
  go_wp2_with fail
  refine (ratio_right _ _ _).mono ?_
  rintro e w2 ⟨rfl, hb2⟩
  clear hc hf
  have hb := below_two hb1 hb2
  clear hb1 hb2
  have c1 : w2.cell? ⟨w.heap.size, 0, none⟩ = some (.func (.func 55) #[] #[.pointer (some ⟨p, 0, none⟩)]) := (hb.cell (by simp <;> omega)).trans (by go_simp)
  have c2 : w2.cell? ⟨w.heap.size, 1, none⟩ = some (.func (.func 56) #[] #[]) := (hb.cell (by simp <;> omega)).trans (by go_simp)
  have c3 : w2.cell? ⟨w.heap.size + 1, 0, none⟩ = some (.int .i64 a) := (hb.cell (by simp <;> omega)).trans (by go_simp)
  have c4 : w2.cell? ⟨w.heap.size + 1, 1, none⟩ = some (.int .i64 b) := (hb.cell (by simp <;> omega)).trans (by go_simp)
  have c5 : w2.cell? ⟨w.heap.size + 1 + 1, 0, none⟩ = some (.int .i64 c) := (hb.cell (by simp <;> omega)).trans (by go_simp)
  have c6 : w2.cell? ⟨w.heap.size + 1 + 1, 1, none⟩ = some (.int .i64 d) := (hb.cell (by simp <;> omega)).trans (by go_simp)
  have c7 : w2.cell? ⟨w.heap.size + 1 + 1 + 1, 0, none⟩ = some (.int .i64 0) := (hb.cell (by simp)).trans (by go_simp)
  have f7 : w2.frozen? ⟨w.heap.size + 1 + 1 + 1, 0, none⟩ = false := (hb.frozen (by simp)).trans (by go_simp)
  have c8 : w2.cell? ⟨w.heap.size + 1 + 1 + 1, 1, none⟩ = some (.int .i64 0) := (hb.cell (by simp)).trans (by go_simp)
  have f8 : w2.frozen? ⟨w.heap.size + 1 + 1 + 1, 1, none⟩ = false := (hb.frozen (by simp)).trans (by go_simp)
  have hB : Below w.heap.size w w2 := Below.trans (by repeat (first | exact Below.refl _ _ | refine below_drewN ?_ _ | refine Below.drew ?_ | refine Below.setCell ?_ (by simp <;> omega) _ | refine Below.alloc ?_ (by simp <;> omega) _)) (hb.mono (by simp; omega))
  have ck : w2.cell? ⟨p, 0, none⟩ = some (.int .i64 k) := cell_later hB hk
  clear hk
  have n1 : p ≠ w.heap.size + 1 + 1 + 1 := by omega
  clear hb
  have c9 : w2.cell? ⟨w.heap.size + 1 + 1 + 1, 0, none⟩ = some (heldAt w2 ⟨w.heap.size + 1 + 1 + 1, 0, none⟩) := held_of c7
  have c10 : w2.cell? ⟨w.heap.size + 1 + 1 + 1, 1, none⟩ = some (heldAt w2 ⟨w.heap.size + 1 + 1 + 1, 1, none⟩) := held_of c8
  clear c7 c8
  go_wp2_with fail
  go_region_held3 (fun w' => w'.cell? ⟨w.heap.size, 0, none⟩ = some (.func (.func 55) #[] #[.pointer (some ⟨p, 0, none⟩)]) ∧ w'.cell? ⟨w.heap.size, 1, none⟩ = some (.func (.func 56) #[] #[]) ∧ w'.cell? ⟨w.heap.size + 1, 0, none⟩ = some (.int .i64 a) ∧ w'.cell? ⟨w.heap.size + 1, 1, none⟩ = some (.int .i64 b) ∧ w'.cell? ⟨w.heap.size + 1 + 1, 0, none⟩ = some (.int .i64 c) ∧ w'.cell? ⟨w.heap.size + 1 + 1, 1, none⟩ = some (.int .i64 d) ∧ w'.cell? ⟨p, 0, none⟩ = some (.int .i64 k) ∧ w'.cell? ⟨w.heap.size + 1 + 1 + 1, 0, none⟩ = some (heldAt w' ⟨w.heap.size + 1 + 1 + 1, 0, none⟩) ∧ w'.cell? ⟨w.heap.size + 1 + 1 + 1, 1, none⟩ = some (heldAt w' ⟨w.heap.size + 1 + 1 + 1, 1, none⟩) ∧ w'.frozen? ⟨w.heap.size + 1 + 1 + 1, 0, none⟩ = false ∧ w'.frozen? ⟨w.heap.size + 1 + 1 + 1, 1, none⟩ = false ∧ Below w.heap.size w w')
    (((try go_split_ands); refine ⟨?_, ?_, ?_, ?_, ?_, ?_, ?_, ?_, ?_, ?_, ?_, ?_⟩ <;> first | (refine cell_later hq ?_; assumption) | (refine held_later hq ?_; assumption) | (refine frozen_held hq ?_ ?_ <;> assumption) | (refine below_two ?_ hq; assumption) | exact c1 | exact c2 | exact c3 | exact c4 | exact c5 | exact c6 | exact ck | exact f7 | exact f8 | exact hB.drew | exact held_of (w := w2.drew) c9 | exact held_of (w := w2.drew) c10 | (refine stored_far ?_ ?_; omega; assumption) | (refine stored_held ?_; assumption) | (refine stored_frozen ?_; assumption) | (refine stored_below ?_ ?_; assumption; omega)))
    (first
      | (go_at_call 55; refine (sum1_any _ _ _ _ k p _ ?_).mono ?_; (first | exact ck | assumption); rintro e w' ⟨rfl, hq⟩)
      | (go_at_call 56; refine (sum2_any _ _ _ _ _).mono ?_; rintro e w' ⟨rfl, hq⟩)
      | (go_at_call 18; refine (of_any _ _ _ (i64_sumW _ _ _ _ _) (i64_mulW _ _)).mono ?_; rintro e w' ⟨rfl, hq⟩))
  rename_i u1 q1 u2 q2 hS
  obtain ⟨-, -, -, -, -, -, -, -, -, -, -, hBl⟩ := hS
  have m0 := stored_0 (x := .int .i64 (Rat.ofN (sumW k a b c d) (mulW b d))) (y := .int .i64 (Rat.ofD (sumW k a b c d) (mulW b d))) (held_later hq (held_later q2 (held_later q1 (held_of (w := w2.drew) c9))))
  have m1 := stored_1 (x := .int .i64 (Rat.ofN (sumW k a b c d) (mulW b d))) (y := .int .i64 (Rat.ofD (sumW k a b c d) (mulW b d))) (held_later hq (held_later q2 (held_later q1 (held_of (w := w2.drew) c10))))
  go_wp2
  exact bodyPost_ret (v := rv (Rat.ofN (sumW k a b c d) (mulW b d)) (Rat.ofD (sumW k a b c d) (mulW b d)) (Rat.ofE (sumW k a b c d) (mulW b d))) (by simp [results, Tryd.results31, go_sem, m0, m1]) rfl ⟨rfl, hBl⟩

set_option maxRecDepth 100000 in
set_option maxHeartbeats 2000000 in
theorem apply_sum_no1 (a b c d : Int) (p : Nat) (w : World) (h1 : Rat.right a b = false) :
    Calls Tryd.prog 31 #[deedSum p, rt a b, rt c d] w fun e w' => e = .returned (rv 0 0 10) ∧ Below w.heap.size w w' := by
  go_enter Tryd.func31, Tryd.ntmps31
  go_wp2_with fail
  refine (ratio_right _ _ _).mono ?_
  rintro e w2 ⟨rfl, hb⟩
  have c7 : w2.cell? ⟨w.heap.size + 1 + 1 + 1, 0, none⟩ = some (.int .i64 0) := (hb.cell (by simp)).trans (by go_simp)
  have f7 : w2.frozen? ⟨w.heap.size + 1 + 1 + 1, 0, none⟩ = false := (hb.frozen (by simp)).trans (by go_simp)
  have c8 : w2.cell? ⟨w.heap.size + 1 + 1 + 1, 1, none⟩ = some (.int .i64 0) := (hb.cell (by simp)).trans (by go_simp)
  have f8 : w2.frozen? ⟨w.heap.size + 1 + 1 + 1, 1, none⟩ = false := (hb.frozen (by simp)).trans (by go_simp)
  have hB : Below w.heap.size w w2 := Below.trans (by repeat (first | exact Below.refl _ _ | refine below_drewN ?_ _ | refine Below.drew ?_ | refine Below.setCell ?_ (by simp <;> omega) _ | refine Below.alloc ?_ (by simp <;> omega) _)) (hb.mono (by simp; omega))
  clear hb
  have m0 := stored_0 (x := .int .i64 0) (y := .int .i64 0) (held_of c7)
  have m1 := stored_1 (x := .int .i64 0) (y := .int .i64 0) (held_of c8)
  go_wp2
  exact bodyPost_ret (v := rv 0 0 10) (by simp [results, Tryd.results31, go_sem, m0, m1]) rfl ⟨rfl, stored_below hB (by omega)⟩

set_option maxRecDepth 100000 in
set_option maxHeartbeats 2000000 in
theorem apply_sum_no2 (a b c d : Int) (p : Nat) (w : World) (h1 : Rat.right a b = true) (h2 : Rat.right c d = false) :
    Calls Tryd.prog 31 #[deedSum p, rt a b, rt c d] w fun e w' => e = .returned (rv 0 0 10) ∧ Below w.heap.size w w' := by
  go_enter Tryd.func31, Tryd.ntmps31
  go_wp2_with fail
  refine (ratio_right _ _ _).mono ?_
  rintro e w1 ⟨rfl, hb1⟩
  obtain ⟨hc, hf⟩ := bcell hb1
  go_wp2_with fail
  refine (ratio_right _ _ _).mono ?_
  rintro e w2 ⟨rfl, hb2⟩
  clear hc hf
  have hb := below_two hb1 hb2
  clear hb1 hb2
  have c7 : w2.cell? ⟨w.heap.size + 1 + 1 + 1, 0, none⟩ = some (.int .i64 0) := (hb.cell (by simp)).trans (by go_simp)
  have f7 : w2.frozen? ⟨w.heap.size + 1 + 1 + 1, 0, none⟩ = false := (hb.frozen (by simp)).trans (by go_simp)
  have c8 : w2.cell? ⟨w.heap.size + 1 + 1 + 1, 1, none⟩ = some (.int .i64 0) := (hb.cell (by simp)).trans (by go_simp)
  have f8 : w2.frozen? ⟨w.heap.size + 1 + 1 + 1, 1, none⟩ = false := (hb.frozen (by simp)).trans (by go_simp)
  have hB : Below w.heap.size w w2 := Below.trans (by repeat (first | exact Below.refl _ _ | refine below_drewN ?_ _ | refine Below.drew ?_ | refine Below.setCell ?_ (by simp <;> omega) _ | refine Below.alloc ?_ (by simp <;> omega) _)) (hb.mono (by simp; omega))
  clear hb
  have m0 := stored_0 (x := .int .i64 0) (y := .int .i64 0) (held_of c7)
  have m1 := stored_1 (x := .int .i64 0) (y := .int .i64 0) (held_of c8)
  go_wp2
  exact bodyPost_ret (v := rv 0 0 10) (by simp [results, Tryd.results31, go_sem, m0, m1]) rfl ⟨rfl, stored_below hB (by omega)⟩

theorem apply_sum (a b c d k : Int) (p : Nat) (w : World) (hk : w.cell? ⟨p, 0, none⟩ = some (.int .i64 k)) :
    Calls Tryd.prog 31 #[deedSum p, rt a b, rt c d] w fun e w' => e = .returned (rv (binN (Rat.right a b && Rat.right c d) (sumW k a b c d) (mulW b d)) (binD (Rat.right a b && Rat.right c d) (sumW k a b c d) (mulW b d)) (binE (Rat.right a b && Rat.right c d) (sumW k a b c d) (mulW b d))) ∧ Below w.heap.size w w' := by
  cases h1 : Rat.right a b
  · exact apply_sum_no1 a b c d p w h1
  · cases h2 : Rat.right c d
    · exact apply_sum_no2 a b c d p w h1 h2
    · exact apply_sum_yes a b c d k p w hk h1 h2

set_option maxRecDepth 100000 in
set_option maxHeartbeats 2000000 in
theorem apply_product_yes (a b c d : Int) (w : World) (h1 : Rat.right a b = true) (h2 : Rat.right c d = true) :
    Calls Tryd.prog 31 #[deedProduct, rt a b, rt c d] w fun e w' => e = .returned (rv (Rat.ofN (mulW a c) (mulW b d)) (Rat.ofD (mulW a c) (mulW b d)) (Rat.ofE (mulW a c) (mulW b d))) ∧ Below w.heap.size w w' := by
  go_enter Tryd.func31, Tryd.ntmps31
  go_wp2_with fail
  refine (ratio_right _ _ _).mono ?_
  rintro e w1 ⟨rfl, hb1⟩
  obtain ⟨hc, hf⟩ := bcell hb1
  go_wp2_with fail
  refine (ratio_right _ _ _).mono ?_
  rintro e w2 ⟨rfl, hb2⟩
  clear hc hf
  have hb := below_two hb1 hb2
  clear hb1 hb2
  have c1 : w2.cell? ⟨w.heap.size, 0, none⟩ = some (.func (.func 96) #[] #[]) := (hb.cell (by simp <;> omega)).trans (by go_simp)
  have c2 : w2.cell? ⟨w.heap.size, 1, none⟩ = some (.func (.func 97) #[] #[]) := (hb.cell (by simp <;> omega)).trans (by go_simp)
  have c3 : w2.cell? ⟨w.heap.size + 1, 0, none⟩ = some (.int .i64 a) := (hb.cell (by simp <;> omega)).trans (by go_simp)
  have c4 : w2.cell? ⟨w.heap.size + 1, 1, none⟩ = some (.int .i64 b) := (hb.cell (by simp <;> omega)).trans (by go_simp)
  have c5 : w2.cell? ⟨w.heap.size + 1 + 1, 0, none⟩ = some (.int .i64 c) := (hb.cell (by simp <;> omega)).trans (by go_simp)
  have c6 : w2.cell? ⟨w.heap.size + 1 + 1, 1, none⟩ = some (.int .i64 d) := (hb.cell (by simp <;> omega)).trans (by go_simp)
  have c7 : w2.cell? ⟨w.heap.size + 1 + 1 + 1, 0, none⟩ = some (.int .i64 0) := (hb.cell (by simp)).trans (by go_simp)
  have f7 : w2.frozen? ⟨w.heap.size + 1 + 1 + 1, 0, none⟩ = false := (hb.frozen (by simp)).trans (by go_simp)
  have c8 : w2.cell? ⟨w.heap.size + 1 + 1 + 1, 1, none⟩ = some (.int .i64 0) := (hb.cell (by simp)).trans (by go_simp)
  have f8 : w2.frozen? ⟨w.heap.size + 1 + 1 + 1, 1, none⟩ = false := (hb.frozen (by simp)).trans (by go_simp)
  have hB : Below w.heap.size w w2 := Below.trans (by repeat (first | exact Below.refl _ _ | refine below_drewN ?_ _ | refine Below.drew ?_ | refine Below.setCell ?_ (by simp <;> omega) _ | refine Below.alloc ?_ (by simp <;> omega) _)) (hb.mono (by simp; omega))
  clear hb
  have c9 : w2.cell? ⟨w.heap.size + 1 + 1 + 1, 0, none⟩ = some (heldAt w2 ⟨w.heap.size + 1 + 1 + 1, 0, none⟩) := held_of c7
  have c10 : w2.cell? ⟨w.heap.size + 1 + 1 + 1, 1, none⟩ = some (heldAt w2 ⟨w.heap.size + 1 + 1 + 1, 1, none⟩) := held_of c8
  clear c7 c8
  go_wp2_with fail
  go_region_held3 (fun w' => w'.cell? ⟨w.heap.size, 0, none⟩ = some (.func (.func 96) #[] #[]) ∧ w'.cell? ⟨w.heap.size, 1, none⟩ = some (.func (.func 97) #[] #[]) ∧ w'.cell? ⟨w.heap.size + 1, 0, none⟩ = some (.int .i64 a) ∧ w'.cell? ⟨w.heap.size + 1, 1, none⟩ = some (.int .i64 b) ∧ w'.cell? ⟨w.heap.size + 1 + 1, 0, none⟩ = some (.int .i64 c) ∧ w'.cell? ⟨w.heap.size + 1 + 1, 1, none⟩ = some (.int .i64 d) ∧ w'.cell? ⟨w.heap.size + 1 + 1 + 1, 0, none⟩ = some (heldAt w' ⟨w.heap.size + 1 + 1 + 1, 0, none⟩) ∧ w'.cell? ⟨w.heap.size + 1 + 1 + 1, 1, none⟩ = some (heldAt w' ⟨w.heap.size + 1 + 1 + 1, 1, none⟩) ∧ w'.frozen? ⟨w.heap.size + 1 + 1 + 1, 0, none⟩ = false ∧ w'.frozen? ⟨w.heap.size + 1 + 1 + 1, 1, none⟩ = false ∧ Below w.heap.size w w')
    (((try go_split_ands); refine ⟨?_, ?_, ?_, ?_, ?_, ?_, ?_, ?_, ?_, ?_, ?_⟩ <;> first | (refine cell_later hq ?_; assumption) | (refine held_later hq ?_; assumption) | (refine frozen_held hq ?_ ?_ <;> assumption) | (refine below_two ?_ hq; assumption) | exact c1 | exact c2 | exact c3 | exact c4 | exact c5 | exact c6 | exact f7 | exact f8 | exact hB.drew | exact held_of (w := w2.drew) c9 | exact held_of (w := w2.drew) c10 | (refine stored_far ?_ ?_; omega; assumption) | (refine stored_held ?_; assumption) | (refine stored_frozen ?_; assumption) | (refine stored_below ?_ ?_; assumption; omega)))
    (first
      | (go_at_call 96; refine (product1_any _ _ _ _ _).mono ?_; rintro e w' ⟨rfl, hq⟩)
      | (go_at_call 97; refine (product2_any _ _ _ _ _).mono ?_; rintro e w' ⟨rfl, hq⟩)
      | (go_at_call 18; refine (of_any _ _ _ (i64_mulW _ _) (i64_mulW _ _)).mono ?_; rintro e w' ⟨rfl, hq⟩))
  rename_i u1 q1 u2 q2 hS
  obtain ⟨-, -, -, -, -, -, -, -, -, -, hBl⟩ := hS
  have m0 := stored_0 (x := .int .i64 (Rat.ofN (mulW a c) (mulW b d))) (y := .int .i64 (Rat.ofD (mulW a c) (mulW b d))) (held_later hq (held_later q2 (held_later q1 (held_of (w := w2.drew) c9))))
  have m1 := stored_1 (x := .int .i64 (Rat.ofN (mulW a c) (mulW b d))) (y := .int .i64 (Rat.ofD (mulW a c) (mulW b d))) (held_later hq (held_later q2 (held_later q1 (held_of (w := w2.drew) c10))))
  go_wp2
  exact bodyPost_ret (v := rv (Rat.ofN (mulW a c) (mulW b d)) (Rat.ofD (mulW a c) (mulW b d)) (Rat.ofE (mulW a c) (mulW b d))) (by simp [results, Tryd.results31, go_sem, m0, m1]) rfl ⟨rfl, hBl⟩

set_option maxRecDepth 100000 in
set_option maxHeartbeats 2000000 in
theorem apply_product_no1 (a b c d : Int) (w : World) (h1 : Rat.right a b = false) :
    Calls Tryd.prog 31 #[deedProduct, rt a b, rt c d] w fun e w' => e = .returned (rv 0 0 10) ∧ Below w.heap.size w w' := by
  go_enter Tryd.func31, Tryd.ntmps31
  go_wp2_with fail
  refine (ratio_right _ _ _).mono ?_
  rintro e w2 ⟨rfl, hb⟩
  have c7 : w2.cell? ⟨w.heap.size + 1 + 1 + 1, 0, none⟩ = some (.int .i64 0) := (hb.cell (by simp)).trans (by go_simp)
  have f7 : w2.frozen? ⟨w.heap.size + 1 + 1 + 1, 0, none⟩ = false := (hb.frozen (by simp)).trans (by go_simp)
  have c8 : w2.cell? ⟨w.heap.size + 1 + 1 + 1, 1, none⟩ = some (.int .i64 0) := (hb.cell (by simp)).trans (by go_simp)
  have f8 : w2.frozen? ⟨w.heap.size + 1 + 1 + 1, 1, none⟩ = false := (hb.frozen (by simp)).trans (by go_simp)
  have hB : Below w.heap.size w w2 := Below.trans (by repeat (first | exact Below.refl _ _ | refine below_drewN ?_ _ | refine Below.drew ?_ | refine Below.setCell ?_ (by simp <;> omega) _ | refine Below.alloc ?_ (by simp <;> omega) _)) (hb.mono (by simp; omega))
  clear hb
  have m0 := stored_0 (x := .int .i64 0) (y := .int .i64 0) (held_of c7)
  have m1 := stored_1 (x := .int .i64 0) (y := .int .i64 0) (held_of c8)
  go_wp2
  exact bodyPost_ret (v := rv 0 0 10) (by simp [results, Tryd.results31, go_sem, m0, m1]) rfl ⟨rfl, stored_below hB (by omega)⟩

set_option maxRecDepth 100000 in
set_option maxHeartbeats 2000000 in
theorem apply_product_no2 (a b c d : Int) (w : World) (h1 : Rat.right a b = true) (h2 : Rat.right c d = false) :
    Calls Tryd.prog 31 #[deedProduct, rt a b, rt c d] w fun e w' => e = .returned (rv 0 0 10) ∧ Below w.heap.size w w' := by
  go_enter Tryd.func31, Tryd.ntmps31
  go_wp2_with fail
  refine (ratio_right _ _ _).mono ?_
  rintro e w1 ⟨rfl, hb1⟩
  obtain ⟨hc, hf⟩ := bcell hb1
  go_wp2_with fail
  refine (ratio_right _ _ _).mono ?_
  rintro e w2 ⟨rfl, hb2⟩
  clear hc hf
  have hb := below_two hb1 hb2
  clear hb1 hb2
  have c7 : w2.cell? ⟨w.heap.size + 1 + 1 + 1, 0, none⟩ = some (.int .i64 0) := (hb.cell (by simp)).trans (by go_simp)
  have f7 : w2.frozen? ⟨w.heap.size + 1 + 1 + 1, 0, none⟩ = false := (hb.frozen (by simp)).trans (by go_simp)
  have c8 : w2.cell? ⟨w.heap.size + 1 + 1 + 1, 1, none⟩ = some (.int .i64 0) := (hb.cell (by simp)).trans (by go_simp)
  have f8 : w2.frozen? ⟨w.heap.size + 1 + 1 + 1, 1, none⟩ = false := (hb.frozen (by simp)).trans (by go_simp)
  have hB : Below w.heap.size w w2 := Below.trans (by repeat (first | exact Below.refl _ _ | refine below_drewN ?_ _ | refine Below.drew ?_ | refine Below.setCell ?_ (by simp <;> omega) _ | refine Below.alloc ?_ (by simp <;> omega) _)) (hb.mono (by simp; omega))
  clear hb
  have m0 := stored_0 (x := .int .i64 0) (y := .int .i64 0) (held_of c7)
  have m1 := stored_1 (x := .int .i64 0) (y := .int .i64 0) (held_of c8)
  go_wp2
  exact bodyPost_ret (v := rv 0 0 10) (by simp [results, Tryd.results31, go_sem, m0, m1]) rfl ⟨rfl, stored_below hB (by omega)⟩

theorem apply_product (a b c d : Int) (w : World) :
    Calls Tryd.prog 31 #[deedProduct, rt a b, rt c d] w fun e w' => e = .returned (rv (binN (Rat.right a b && Rat.right c d) (mulW a c) (mulW b d)) (binD (Rat.right a b && Rat.right c d) (mulW a c) (mulW b d)) (binE (Rat.right a b && Rat.right c d) (mulW a c) (mulW b d))) ∧ Below w.heap.size w w' := by
  cases h1 : Rat.right a b
  · exact apply_product_no1 a b c d w h1
  · cases h2 : Rat.right c d
    · exact apply_product_no2 a b c d w h1 h2
    · exact apply_product_yes a b c d w h1 h2

theorem three_new (w : World) (a b c d : Int) (t : TypeId) :
    let W := ((w.alloc (.cells #[.int .i64 a, .int .i64 b] t)).alloc (.cells #[.int .i64 c, .int .i64 d] t)).alloc (.cells #[.int .i64 0, .int .i64 0] t)
    W.cell? ⟨w.heap.size, 0, none⟩ = some (.int .i64 a) ∧ W.cell? ⟨w.heap.size, 1, none⟩ = some (.int .i64 b) ∧ W.cell? ⟨w.heap.size + 1, 0, none⟩ = some (.int .i64 c) ∧ W.cell? ⟨w.heap.size + 1, 1, none⟩ = some (.int .i64 d) ∧
    W.cell? ⟨w.heap.size + 1 + 1, 0, none⟩ = some (.int .i64 0) ∧ W.cell? ⟨w.heap.size + 1 + 1, 1, none⟩ = some (.int .i64 0) ∧ W.frozen? ⟨w.heap.size + 1 + 1, 0, none⟩ = false ∧ W.frozen? ⟨w.heap.size + 1 + 1, 1, none⟩ = false ∧ Below w.heap.size w W := by
  refine ⟨by go_simp, by go_simp, by go_simp, by go_simp, by go_simp, by go_simp, by go_simp, by go_simp, ?_⟩
  (repeat (first | exact Below.refl _ _ | refine Below.alloc ?_ (by simp <;> omega) _))

theorem binE_no (n d : Int) : binE false n d = 10 := rfl

theorem binN_no (n d : Int) : binN false n d = 0 := rfl

theorem binD_no (n d : Int) : binD false n d = 0 := rfl

set_option maxRecDepth 100000 in
set_option maxHeartbeats 2000000 in
theorem add_raw (a b c d : Int) (w : World) :
    Calls Tryd.prog 15 #[rt a b, rt c d] w fun e w' => e = .returned (rv (binN (Rat.right a b && Rat.right c d) (sumW 1 a b c d) (mulW b d)) (binD (Rat.right a b && Rat.right c d) (sumW 1 a b c d) (mulW b d)) (binE (Rat.right a b && Rat.right c d) (sumW 1 a b c d) (mulW b d))) ∧ Below w.heap.size w w' := by
  go_enter Tryd.func15, Tryd.ntmps15
  go_wp2_with fail
  obtain ⟨c3, c4, c5, c6, c7, c8, f7, f8, hB⟩ := three_new w a b c d 36
  generalize ((w.alloc (.cells #[.int .i64 a, .int .i64 b] 36)).alloc (.cells #[.int .i64 c, .int .i64 d] 36)).alloc (.cells #[.int .i64 0, .int .i64 0] 36) = w2 at *
  have c9 : w2.cell? ⟨w.heap.size + 1 + 1, 0, none⟩ = some (heldAt w2 ⟨w.heap.size + 1 + 1, 0, none⟩) := held_of c7
  have c10 : w2.cell? ⟨w.heap.size + 1 + 1, 1, none⟩ = some (heldAt w2 ⟨w.heap.size + 1 + 1, 1, none⟩) := held_of c8
  clear c7 c8
  go_region_held3 (fun w' => w'.cell? ⟨w.heap.size, 0, none⟩ = some (.int .i64 a) ∧ w'.cell? ⟨w.heap.size, 1, none⟩ = some (.int .i64 b) ∧ w'.cell? ⟨w.heap.size + 1, 0, none⟩ = some (.int .i64 c) ∧ w'.cell? ⟨w.heap.size + 1, 1, none⟩ = some (.int .i64 d) ∧ w'.cell? ⟨w.heap.size + 1 + 1, 0, none⟩ = some (heldAt w' ⟨w.heap.size + 1 + 1, 0, none⟩) ∧ w'.cell? ⟨w.heap.size + 1 + 1, 1, none⟩ = some (heldAt w' ⟨w.heap.size + 1 + 1, 1, none⟩) ∧ w'.frozen? ⟨w.heap.size + 1 + 1, 0, none⟩ = false ∧ w'.frozen? ⟨w.heap.size + 1 + 1, 1, none⟩ = false ∧ Below w.heap.size w w')
    (((try go_split_ands); refine ⟨?_, ?_, ?_, ?_, ?_, ?_, ?_, ?_, ?_⟩ <;> first | (refine cell_later hq ?_; assumption) | (refine held_later hq ?_; assumption) | (refine frozen_held hq ?_ ?_ <;> assumption) | (refine below_two ?_ hq; assumption) | exact c3 | exact c4 | exact c5 | exact c6 | exact f7 | exact f8 | exact hB.drew | exact held_of (w := w2.drew) c9 | exact held_of (w := w2.drew) c10 | (refine stored_far ?_ ?_; omega; assumption) | (refine stored_held ?_; assumption) | (refine stored_frozen ?_; assumption) | (refine stored_below ?_ ?_; assumption; omega)))
    (first
      | (go_at_call 32; refine (sum_any _ _).mono ?_; rintro e w' ⟨bk, rfl, hk, hq⟩)
      | (go_at_call 31; refine (apply_sum _ _ _ _ (1) bk _ hk).mono ?_; rintro e w' ⟨rfl, hq⟩))
  rename_i u1 bk hk q1 hS
  obtain ⟨-, -, -, -, -, -, -, -, hBl⟩ := hS
  have m0 := stored_0 (x := .int .i64 (binN (Rat.right a b && Rat.right c d) (sumW 1 a b c d) (mulW b d))) (y := .int .i64 (binD (Rat.right a b && Rat.right c d) (sumW 1 a b c d) (mulW b d))) (held_later hq (held_later q1 (held_of (w := w2.drew) c9)))
  have m1 := stored_1 (x := .int .i64 (binN (Rat.right a b && Rat.right c d) (sumW 1 a b c d) (mulW b d))) (y := .int .i64 (binD (Rat.right a b && Rat.right c d) (sumW 1 a b c d) (mulW b d))) (held_later hq (held_later q1 (held_of (w := w2.drew) c10)))
  go_wp2
  exact bodyPost_ret (v := rv (binN (Rat.right a b && Rat.right c d) (sumW 1 a b c d) (mulW b d)) (binD (Rat.right a b && Rat.right c d) (sumW 1 a b c d) (mulW b d)) (binE (Rat.right a b && Rat.right c d) (sumW 1 a b c d) (mulW b d))) (by simp [results, Tryd.results15, go_sem, m0, m1]) rfl ⟨rfl, hBl⟩

theorem add_any (a b c d : Int) (w : World) :
    Calls Tryd.prog 15 #[rt a b, rt c d] w fun e w' => e = .returned (rv (binN (Rat.right a b && Rat.right c d) (a * d + c * b) (b * d)) (binD (Rat.right a b && Rat.right c d) (a * d + c * b) (b * d)) (binE (Rat.right a b && Rat.right c d) (a * d + c * b) (b * d))) ∧ Below w.heap.size w w' := by
  cases h1 : (Rat.right a b && Rat.right c d)
  · have := add_raw a b c d w
    rw [h1, binN_no, binD_no, binE_no] at this
    rw [binN_no, binD_no, binE_no]
    exact this
  · have := add_raw a b c d w
    rw [h1] at this
    obtain ⟨x, y⟩ := (Bool.and_eq_true _ _).mp h1
    have hx := (Rat.right_iff _ _).1 x
    have hy := (Rat.right_iff _ _).1 y
    have hM := Rat.M_eq
    have ha : -1000000000 ≤ a ∧ a ≤ 1000000000 := ⟨by have := hx.n0; omega, by have := hx.nM; omega⟩
    have hb : -1000000000 ≤ b ∧ b ≤ 1000000000 := ⟨by have := hx.d1; omega, by have := hx.dM; omega⟩
    have hc : -1000000000 ≤ c ∧ c ≤ 1000000000 := ⟨by have := hy.n0; omega, by have := hy.nM; omega⟩
    have hd : -1000000000 ≤ d ∧ d ≤ 1000000000 := ⟨by have := hy.d1; omega, by have := hy.dM; omega⟩
    rw [sumW_one ha hb hc hd, mulW_eq hb hd] at this
    exact this

set_option maxRecDepth 100000 in
set_option maxHeartbeats 2000000 in
theorem sub_raw (a b c d : Int) (w : World) :
    Calls Tryd.prog 54 #[rt a b, rt c d] w fun e w' => e = .returned (rv (binN (Rat.right a b && Rat.right c d) (sumW (-1) a b c d) (mulW b d)) (binD (Rat.right a b && Rat.right c d) (sumW (-1) a b c d) (mulW b d)) (binE (Rat.right a b && Rat.right c d) (sumW (-1) a b c d) (mulW b d))) ∧ Below w.heap.size w w' := by
  go_enter Tryd.func54, Tryd.ntmps54
  go_wp2_with fail
  obtain ⟨c3, c4, c5, c6, c7, c8, f7, f8, hB⟩ := three_new w a b c d 36
  generalize ((w.alloc (.cells #[.int .i64 a, .int .i64 b] 36)).alloc (.cells #[.int .i64 c, .int .i64 d] 36)).alloc (.cells #[.int .i64 0, .int .i64 0] 36) = w2 at *
  have c9 : w2.cell? ⟨w.heap.size + 1 + 1, 0, none⟩ = some (heldAt w2 ⟨w.heap.size + 1 + 1, 0, none⟩) := held_of c7
  have c10 : w2.cell? ⟨w.heap.size + 1 + 1, 1, none⟩ = some (heldAt w2 ⟨w.heap.size + 1 + 1, 1, none⟩) := held_of c8
  clear c7 c8
  go_region_held3 (fun w' => w'.cell? ⟨w.heap.size, 0, none⟩ = some (.int .i64 a) ∧ w'.cell? ⟨w.heap.size, 1, none⟩ = some (.int .i64 b) ∧ w'.cell? ⟨w.heap.size + 1, 0, none⟩ = some (.int .i64 c) ∧ w'.cell? ⟨w.heap.size + 1, 1, none⟩ = some (.int .i64 d) ∧ w'.cell? ⟨w.heap.size + 1 + 1, 0, none⟩ = some (heldAt w' ⟨w.heap.size + 1 + 1, 0, none⟩) ∧ w'.cell? ⟨w.heap.size + 1 + 1, 1, none⟩ = some (heldAt w' ⟨w.heap.size + 1 + 1, 1, none⟩) ∧ w'.frozen? ⟨w.heap.size + 1 + 1, 0, none⟩ = false ∧ w'.frozen? ⟨w.heap.size + 1 + 1, 1, none⟩ = false ∧ Below w.heap.size w w')
    (((try go_split_ands); refine ⟨?_, ?_, ?_, ?_, ?_, ?_, ?_, ?_, ?_⟩ <;> first | (refine cell_later hq ?_; assumption) | (refine held_later hq ?_; assumption) | (refine frozen_held hq ?_ ?_ <;> assumption) | (refine below_two ?_ hq; assumption) | exact c3 | exact c4 | exact c5 | exact c6 | exact f7 | exact f8 | exact hB.drew | exact held_of (w := w2.drew) c9 | exact held_of (w := w2.drew) c10 | (refine stored_far ?_ ?_; omega; assumption) | (refine stored_held ?_; assumption) | (refine stored_frozen ?_; assumption) | (refine stored_below ?_ ?_; assumption; omega)))
    (first
      | (go_at_call 32; refine (sum_any _ _).mono ?_; rintro e w' ⟨bk, rfl, hk, hq⟩)
      | (go_at_call 31; refine (apply_sum _ _ _ _ (-1) bk _ hk).mono ?_; rintro e w' ⟨rfl, hq⟩))
  rename_i u1 bk hk q1 hS
  obtain ⟨-, -, -, -, -, -, -, -, hBl⟩ := hS
  have m0 := stored_0 (x := .int .i64 (binN (Rat.right a b && Rat.right c d) (sumW (-1) a b c d) (mulW b d))) (y := .int .i64 (binD (Rat.right a b && Rat.right c d) (sumW (-1) a b c d) (mulW b d))) (held_later hq (held_later q1 (held_of (w := w2.drew) c9)))
  have m1 := stored_1 (x := .int .i64 (binN (Rat.right a b && Rat.right c d) (sumW (-1) a b c d) (mulW b d))) (y := .int .i64 (binD (Rat.right a b && Rat.right c d) (sumW (-1) a b c d) (mulW b d))) (held_later hq (held_later q1 (held_of (w := w2.drew) c10)))
  go_wp2
  exact bodyPost_ret (v := rv (binN (Rat.right a b && Rat.right c d) (sumW (-1) a b c d) (mulW b d)) (binD (Rat.right a b && Rat.right c d) (sumW (-1) a b c d) (mulW b d)) (binE (Rat.right a b && Rat.right c d) (sumW (-1) a b c d) (mulW b d))) (by simp [results, Tryd.results54, go_sem, m0, m1]) rfl ⟨rfl, hBl⟩

theorem sub_any (a b c d : Int) (w : World) :
    Calls Tryd.prog 54 #[rt a b, rt c d] w fun e w' => e = .returned (rv (binN (Rat.right a b && Rat.right c d) (a * d - c * b) (b * d)) (binD (Rat.right a b && Rat.right c d) (a * d - c * b) (b * d)) (binE (Rat.right a b && Rat.right c d) (a * d - c * b) (b * d))) ∧ Below w.heap.size w w' := by
  cases h1 : (Rat.right a b && Rat.right c d)
  · have := sub_raw a b c d w
    rw [h1, binN_no, binD_no, binE_no] at this
    rw [binN_no, binD_no, binE_no]
    exact this
  · have := sub_raw a b c d w
    rw [h1] at this
    obtain ⟨x, y⟩ := (Bool.and_eq_true _ _).mp h1
    have hx := (Rat.right_iff _ _).1 x
    have hy := (Rat.right_iff _ _).1 y
    have hM := Rat.M_eq
    have ha : -1000000000 ≤ a ∧ a ≤ 1000000000 := ⟨by have := hx.n0; omega, by have := hx.nM; omega⟩
    have hb : -1000000000 ≤ b ∧ b ≤ 1000000000 := ⟨by have := hx.d1; omega, by have := hx.dM; omega⟩
    have hc : -1000000000 ≤ c ∧ c ≤ 1000000000 := ⟨by have := hy.n0; omega, by have := hy.nM; omega⟩
    have hd : -1000000000 ≤ d ∧ d ≤ 1000000000 := ⟨by have := hy.d1; omega, by have := hy.dM; omega⟩
    rw [sumW_neg ha hb hc hd, mulW_eq hb hd] at this
    exact this

set_option maxRecDepth 100000 in
set_option maxHeartbeats 2000000 in
theorem mul_raw (a b c d : Int) (w : World) :
    Calls Tryd.prog 81 #[rt a b, rt c d] w fun e w' => e = .returned (rv (binN (Rat.right a b && Rat.right c d) (mulW a c) (mulW b d)) (binD (Rat.right a b && Rat.right c d) (mulW a c) (mulW b d)) (binE (Rat.right a b && Rat.right c d) (mulW a c) (mulW b d))) ∧ Below w.heap.size w w' := by
  go_enter Tryd.func81, Tryd.ntmps81
  go_wp2_with fail
  obtain ⟨c3, c4, c5, c6, c7, c8, f7, f8, hB⟩ := three_new w a b c d 36
  generalize ((w.alloc (.cells #[.int .i64 a, .int .i64 b] 36)).alloc (.cells #[.int .i64 c, .int .i64 d] 36)).alloc (.cells #[.int .i64 0, .int .i64 0] 36) = w2 at *
  have c9 : w2.cell? ⟨w.heap.size + 1 + 1, 0, none⟩ = some (heldAt w2 ⟨w.heap.size + 1 + 1, 0, none⟩) := held_of c7
  have c10 : w2.cell? ⟨w.heap.size + 1 + 1, 1, none⟩ = some (heldAt w2 ⟨w.heap.size + 1 + 1, 1, none⟩) := held_of c8
  clear c7 c8
  go_region_held3 (fun w' => w'.cell? ⟨w.heap.size, 0, none⟩ = some (.int .i64 a) ∧ w'.cell? ⟨w.heap.size, 1, none⟩ = some (.int .i64 b) ∧ w'.cell? ⟨w.heap.size + 1, 0, none⟩ = some (.int .i64 c) ∧ w'.cell? ⟨w.heap.size + 1, 1, none⟩ = some (.int .i64 d) ∧ w'.cell? ⟨w.heap.size + 1 + 1, 0, none⟩ = some (heldAt w' ⟨w.heap.size + 1 + 1, 0, none⟩) ∧ w'.cell? ⟨w.heap.size + 1 + 1, 1, none⟩ = some (heldAt w' ⟨w.heap.size + 1 + 1, 1, none⟩) ∧ w'.frozen? ⟨w.heap.size + 1 + 1, 0, none⟩ = false ∧ w'.frozen? ⟨w.heap.size + 1 + 1, 1, none⟩ = false ∧ Below w.heap.size w w')
    (((try go_split_ands); refine ⟨?_, ?_, ?_, ?_, ?_, ?_, ?_, ?_, ?_⟩ <;> first | (refine cell_later hq ?_; assumption) | (refine held_later hq ?_; assumption) | (refine frozen_held hq ?_ ?_ <;> assumption) | (refine below_two ?_ hq; assumption) | exact c3 | exact c4 | exact c5 | exact c6 | exact f7 | exact f8 | exact hB.drew | exact held_of (w := w2.drew) c9 | exact held_of (w := w2.drew) c10 | (refine stored_far ?_ ?_; omega; assumption) | (refine stored_held ?_; assumption) | (refine stored_frozen ?_; assumption) | (refine stored_below ?_ ?_; assumption; omega)))
    (first
      | (go_at_call 91; refine (product_any _).mono ?_; rintro e w' ⟨rfl, hq⟩)
      | (go_at_call 31; refine (apply_product _ _ _ _ _).mono ?_; rintro e w' ⟨rfl, hq⟩))
  rename_i u1 q1 hS
  obtain ⟨-, -, -, -, -, -, -, -, hBl⟩ := hS
  have m0 := stored_0 (x := .int .i64 (binN (Rat.right a b && Rat.right c d) (mulW a c) (mulW b d))) (y := .int .i64 (binD (Rat.right a b && Rat.right c d) (mulW a c) (mulW b d))) (held_later hq (held_later q1 (held_of (w := w2.drew) c9)))
  have m1 := stored_1 (x := .int .i64 (binN (Rat.right a b && Rat.right c d) (mulW a c) (mulW b d))) (y := .int .i64 (binD (Rat.right a b && Rat.right c d) (mulW a c) (mulW b d))) (held_later hq (held_later q1 (held_of (w := w2.drew) c10)))
  go_wp2
  exact bodyPost_ret (v := rv (binN (Rat.right a b && Rat.right c d) (mulW a c) (mulW b d)) (binD (Rat.right a b && Rat.right c d) (mulW a c) (mulW b d)) (binE (Rat.right a b && Rat.right c d) (mulW a c) (mulW b d))) (by simp [results, Tryd.results81, go_sem, m0, m1]) rfl ⟨rfl, hBl⟩

theorem mul_any (a b c d : Int) (w : World) :
    Calls Tryd.prog 81 #[rt a b, rt c d] w fun e w' => e = .returned (rv (binN (Rat.right a b && Rat.right c d) (a * c) (b * d)) (binD (Rat.right a b && Rat.right c d) (a * c) (b * d)) (binE (Rat.right a b && Rat.right c d) (a * c) (b * d))) ∧ Below w.heap.size w w' := by
  cases h1 : (Rat.right a b && Rat.right c d)
  · have := mul_raw a b c d w
    rw [h1, binN_no, binD_no, binE_no] at this
    rw [binN_no, binD_no, binE_no]
    exact this
  · have := mul_raw a b c d w
    rw [h1] at this
    obtain ⟨x, y⟩ := (Bool.and_eq_true _ _).mp h1
    have hx := (Rat.right_iff _ _).1 x
    have hy := (Rat.right_iff _ _).1 y
    have hM := Rat.M_eq
    have ha : -1000000000 ≤ a ∧ a ≤ 1000000000 := ⟨by have := hx.n0; omega, by have := hx.nM; omega⟩
    have hb : -1000000000 ≤ b ∧ b ≤ 1000000000 := ⟨by have := hx.d1; omega, by have := hx.dM; omega⟩
    have hc : -1000000000 ≤ c ∧ c ≤ 1000000000 := ⟨by have := hy.n0; omega, by have := hy.nM; omega⟩
    have hd : -1000000000 ≤ d ∧ d ≤ 1000000000 := ⟨by have := hy.d1; omega, by have := hy.dM; omega⟩
    rw [mulW_eq ha hc, mulW_eq hb hd] at this
    exact this

theorem field_sum (b : Nat) (w : World) : (Instr.field 92 (deedSum b) 0).run Tryd.prog w = .ok (.func (.func 55) #[] #[.pointer (some ⟨b, 0, none⟩)]) w := by kernel_rfl

/-- What Compare answers. -/
def cmpV (r : Bool) (x : Int) : Int := if r then Rat.sgn x else 0

set_option maxHeartbeats 1000000 in
theorem cmp0_any (x : Int) (w : World) :
    Calls Tryd.prog 34 #[.int .i64 x, .int .i64 0] w fun e w' => e = .returned (.int .i64 (Rat.sgn x)) ∧ w = w' := by
  by_cases h1 : x < 0
  · have e1 : Rat.sgn x = -1 := by unfold Rat.sgn; rw [if_pos h1]
    rw [e1]
    go_enter Tryd.func34, Tryd.ntmps34
    go_wp2
    go_ret
    exact ⟨rfl, rfl⟩
  by_cases h2 : x = 0
  · subst h2
    go_enter Tryd.func34, Tryd.ntmps34
    go_wp2
    go_ret
    exact ⟨rfl, rfl⟩
  · have e1 : Rat.sgn x = 1 := by unfold Rat.sgn; rw [if_neg h1, if_neg h2]
    have h3 : 0 < x := by omega
    rw [e1]
    go_enter Tryd.func34, Tryd.ntmps34
    go_wp2
    go_ret
    exact ⟨rfl, rfl⟩

set_option maxRecDepth 100000 in
set_option maxHeartbeats 2000000 in
theorem rt_compare_no1 (a b c d : Int) (w : World) (h1 : Rat.right a b = false) :
    Calls Tryd.prog 16 #[rt a b, rt c d] w fun e w' => e = .returned (.int .i64 0) ∧ Below w.heap.size w w' := by
  go_enter Tryd.func16, Tryd.ntmps16
  go_wp2_with fail
  refine (ratio_right _ _ _).mono ?_
  rintro e w2 ⟨rfl, hb⟩
  have hB : Below w.heap.size w w2 := Below.trans (by repeat (first | exact Below.refl _ _ | refine Below.alloc ?_ (by simp <;> omega) _)) (hb.mono (by simp; omega))
  clear hb
  go_wp2
  go_ret
  exact ⟨rfl, hB⟩

set_option maxRecDepth 100000 in
set_option maxHeartbeats 2000000 in
theorem rt_compare_no2 (a b c d : Int) (w : World) (h1 : Rat.right a b = true) (h2 : Rat.right c d = false) :
    Calls Tryd.prog 16 #[rt a b, rt c d] w fun e w' => e = .returned (.int .i64 0) ∧ Below w.heap.size w w' := by
  go_enter Tryd.func16, Tryd.ntmps16
  go_wp2_with fail
  refine (ratio_right _ _ _).mono ?_
  rintro e w1 ⟨rfl, hb1⟩
  obtain ⟨hc, hf⟩ := bcell hb1
  go_wp2_with fail
  refine (ratio_right _ _ _).mono ?_
  rintro e w2 ⟨rfl, hb2⟩
  clear hc hf
  have hb := below_two hb1 hb2
  clear hb1 hb2
  have hB : Below w.heap.size w w2 := Below.trans (by repeat (first | exact Below.refl _ _ | refine Below.alloc ?_ (by simp <;> omega) _)) (hb.mono (by simp; omega))
  clear hb
  go_wp2
  go_ret
  exact ⟨rfl, hB⟩

set_option maxRecDepth 100000 in
set_option maxHeartbeats 2000000 in
theorem rt_compare_yes (a b c d : Int) (w : World) (h1 : Rat.right a b = true) (h2 : Rat.right c d = true) :
    Calls Tryd.prog 16 #[rt a b, rt c d] w fun e w' => e = .returned (.int .i64 (Rat.sgn (sumW (-1) a b c d))) ∧ Below w.heap.size w w' := by
  have hfld := field_sum
  go_enter Tryd.func16, Tryd.ntmps16
  go_wp2_with fail
  refine (ratio_right _ _ _).mono ?_
  rintro e w1 ⟨rfl, hb1⟩
  obtain ⟨hc, hf⟩ := bcell hb1
  go_wp2_with fail
  refine (ratio_right _ _ _).mono ?_
  rintro e w2 ⟨rfl, hb2⟩
  clear hc hf
  have hb := below_two hb1 hb2
  clear hb1 hb2
  have hB : Below w.heap.size w w2 := Below.trans (by repeat (first | exact Below.refl _ _ | refine Below.alloc ?_ (by simp <;> omega) _)) (hb.mono (by simp; omega))
  have c3 : w2.cell? ⟨w.heap.size, 0, none⟩ = some (.int .i64 a) := (hb.cell (by simp <;> omega)).trans (by go_simp)
  have c4 : w2.cell? ⟨w.heap.size, 1, none⟩ = some (.int .i64 b) := (hb.cell (by simp <;> omega)).trans (by go_simp)
  have c5 : w2.cell? ⟨w.heap.size + 1, 0, none⟩ = some (.int .i64 c) := (hb.cell (by simp <;> omega)).trans (by go_simp)
  have c6 : w2.cell? ⟨w.heap.size + 1, 1, none⟩ = some (.int .i64 d) := (hb.cell (by simp <;> omega)).trans (by go_simp)
  clear hb
  go_wp2_with fail
  go_region_held3 (fun w' => w'.cell? ⟨w.heap.size, 0, none⟩ = some (.int .i64 a) ∧ w'.cell? ⟨w.heap.size, 1, none⟩ = some (.int .i64 b) ∧ w'.cell? ⟨w.heap.size + 1, 0, none⟩ = some (.int .i64 c) ∧ w'.cell? ⟨w.heap.size + 1, 1, none⟩ = some (.int .i64 d) ∧ Below w.heap.size w w')
    (((try go_split_ands); refine ⟨?_, ?_, ?_, ?_, ?_⟩ <;> first | assumption | (refine cell_later hq ?_; assumption) | (refine below_two ?_ hq; assumption) | exact c3 | exact c4 | exact c5 | exact c6 | exact hB.drew))
    (first
      | (go_at_call 32; refine (sum_any _ _).mono ?_; rintro e w' ⟨bk, rfl, hk, hq⟩)
      | (go_at_call 55; refine (sum1_any _ _ _ _ (-1) bk _ hk).mono ?_; rintro e w' ⟨rfl, hq⟩)
      | (go_at_call 34; refine (cmp0_any _ _).mono ?_; rintro e w' ⟨rfl, rfl⟩))
  rename_i hS
  obtain ⟨-, -, -, -, hBl⟩ := hS
  go_wp2
  go_ret
  exact ⟨rfl, hBl⟩

theorem rt_compare_any (a b c d : Int) (w : World) :
    Calls Tryd.prog 16 #[rt a b, rt c d] w fun e w' => e = .returned (.int .i64 (cmpV (Rat.right a b && Rat.right c d) (a * d - c * b))) ∧ Below w.heap.size w w' := by
  cases h1 : Rat.right a b
  · exact rt_compare_no1 a b c d w h1
  · cases h2 : Rat.right c d
    · exact rt_compare_no2 a b c d w h1 h2
    · have := rt_compare_yes a b c d w h1 h2
      have hx := (Rat.right_iff _ _).1 h1
      have hy := (Rat.right_iff _ _).1 h2
      have hM := Rat.M_eq
      have ha : -1000000000 ≤ a ∧ a ≤ 1000000000 := ⟨by have := hx.n0; omega, by have := hx.nM; omega⟩
      have hb : -1000000000 ≤ b ∧ b ≤ 1000000000 := ⟨by have := hx.d1; omega, by have := hx.dM; omega⟩
      have hc : -1000000000 ≤ c ∧ c ≤ 1000000000 := ⟨by have := hy.n0; omega, by have := hy.nM; omega⟩
      have hd : -1000000000 ≤ d ∧ d ≤ 1000000000 := ⟨by have := hy.d1; omega, by have := hy.dM; omega⟩
      rw [sumW_neg ha hb hc hd] at this
      exact this
end Go.Proofs.YtobhmiknlbjmkaaDoor
