/-
  The contracts of ratio.Right and of the reference's Right.
-/
import Derived.Test.YtlodhfdikglgoaaRatB
import Derived.Laws.StructEq
namespace Go.Proofs.Ytlodhfdikglgoaa
open Go.RowKit

/-- A ratio as a value. -/
abbrev rt (n d : Int) : Value := .agg #[.int .i64 n, .int .i64 d]

/-- What Right answers in each way. -/
theorem right_d1 {n d : Int} (h : d < 1) : Rat.right n d = false := by unfold Rat.right; simp; omega
theorem right_dM {n d : Int} (h : 1000000000 < d) : Rat.right n d = false := by have := Rat.M_eq; unfold Rat.right; simp; omega
theorem right_n0 {n d : Int} (h : n < -1000000000) : Rat.right n d = false := by have := Rat.M_eq; unfold Rat.right; simp; omega
theorem right_nM {n d : Int} (h : 1000000000 < n) : Rat.right n d = false := by have := Rat.M_eq; unfold Rat.right; simp; omega
theorem right_in {n d : Int} (h1 : 1 ≤ d) (h2 : d ≤ 1000000000) (h3 : -1000000000 ≤ n) (h4 : n ≤ 1000000000) : Rat.right n d = decide (Nat.gcd n.natAbs d.natAbs = 1) := by
  have := Rat.M_eq; unfold Rat.right; rw [decide_eq_decide]; exact ⟨fun h => h.2.2.2.2, fun h => ⟨by omega, by omega, by omega, by omega, h⟩⟩

theorem magnitude_q (n : Int) (w : World) (k : Nat) (h : Rat.I64 n) :
    Calls Try.prog 51 #[.int .i64 n] (w.drewN k) fun e w' => e = .returned (.int .u64 (n.natAbs : Int)) ∧ ∃ m, w' = w.drewN m :=
  (magnitude_any n _ h).mono fun _ _ ⟨he, hw⟩ => ⟨he, k, hw.symm⟩
theorem divisor_q (a b : Nat) (w : World) (k : Nat) (ha : U64 a) (hb : U64 b) :
    Calls Try.prog 52 #[.int .u64 (a : Int), .int .u64 (b : Int)] (w.drewN k) fun e w' => e = .returned (.int .u64 (Nat.gcd a b : Nat)) ∧ ∃ m, w' = w.drewN m :=
  Calls.quiet_of (divisor_any a b _ ha hb)

theorem beq_one (g : Nat) : ((g : Int) == 1) = decide (g = 1) := by rw [Bool.eq_iff_iff]; simp; omega
theorem bcell {W w1 : World} (hb : Below W.heap.size W w1) : (∀ b o, b < W.heap.size → w1.cell? ⟨b, o, none⟩ = W.cell? ⟨b, o, none⟩) ∧ (∀ b o, b < W.heap.size → w1.frozen? ⟨b, o, none⟩ = W.frozen? ⟨b, o, none⟩) :=
  ⟨fun b o h => hb.cell (p := ⟨b, o, none⟩) h, fun b o h => hb.frozen (p := ⟨b, o, none⟩) h⟩
theorem ret_bool {a b : Bool} (h : a = b) : Ending.returned (.bool a) = .returned (.bool b) := by rw [h]

set_option maxHeartbeats 1000000 in
theorem right_no (n d : Int) (w : World) (h : d < 1 ∨ (1 ≤ d ∧ 1000000000 < d) ∨ (1 ≤ d ∧ d ≤ 1000000000 ∧ n < -1000000000) ∨ (1 ≤ d ∧ d ≤ 1000000000 ∧ -1000000000 ≤ n ∧ 1000000000 < n)) :
    Calls Try.prog 42 #[rt n d] w fun e w' => e = .returned (.bool (Rat.right n d)) ∧ Below w.heap.size w w' := by
  rcases h with h | ⟨h1, h⟩ | ⟨h1, h2, h⟩ | ⟨h1, h2, h3, h⟩
  · rw [right_d1 h]
    go_enter Try.func42, Try.ntmps42
    go_wp2
    go_ret
    exact ⟨rfl, (by repeat (first | exact Below.refl _ _ | refine below_drewN ?_ _ | refine Below.drew ?_ | refine Below.setCell ?_ (by simp) _ | refine Below.alloc ?_ (by simp) _))⟩
  · rw [right_dM h]
    go_enter Try.func42, Try.ntmps42
    go_wp2
    go_ret
    exact ⟨rfl, (by repeat (first | exact Below.refl _ _ | refine below_drewN ?_ _ | refine Below.drew ?_ | refine Below.setCell ?_ (by simp) _ | refine Below.alloc ?_ (by simp) _))⟩
  · rw [right_n0 h]
    go_enter Try.func42, Try.ntmps42
    go_wp2
    go_ret
    exact ⟨rfl, (by repeat (first | exact Below.refl _ _ | refine below_drewN ?_ _ | refine Below.drew ?_ | refine Below.setCell ?_ (by simp) _ | refine Below.alloc ?_ (by simp) _))⟩
  · rw [right_nM h]
    go_enter Try.func42, Try.ntmps42
    go_wp2
    go_ret
    exact ⟨rfl, (by repeat (first | exact Below.refl _ _ | refine below_drewN ?_ _ | refine Below.drew ?_ | refine Below.setCell ?_ (by simp) _ | refine Below.alloc ?_ (by simp) _))⟩

theorem i64_small {n : Int} (h3 : -1000000000 ≤ n) (h4 : n ≤ 1000000000) : Rat.I64 n := by unfold Rat.I64; omega

set_option maxHeartbeats 1000000 in
theorem right_yes (n d : Int) (w : World) (h1 : 1 ≤ d) (h2 : d ≤ 1000000000) (h3 : -1000000000 ≤ n) (h4 : n ≤ 1000000000) :
    Calls Try.prog 42 #[rt n d] w fun e w' => e = .returned (.bool (Rat.right n d)) ∧ Below w.heap.size w w' := by
  have hn := i64_small h3 h4
  have hd : Rat.I64 d := i64_small (by omega) h2
  have HR := Lib.hid (right_in h1 h2 h3 h4)
  go_enter Try.func42, Try.ntmps42
  go_wp2
  go_quiet ((first
    | (go_at_call 51; first | exact magnitude_q _ _ _ hn | exact magnitude_q _ _ _ hd)
    | (go_at_call 52; exact divisor_q _ _ _ _ (u64_abs hn) (u64_abs hd))))
  go_wp2
  go_ret
  exact ⟨ret_bool (by rw [HR.out]; exact beq_one _), (by repeat (first | exact Below.refl _ _ | refine below_drewN ?_ _ | refine Below.drew ?_ | refine Below.setCell ?_ (by simp) _ | refine Below.alloc ?_ (by simp) _))⟩

theorem ratio_right (n d : Int) (w : World) :
    Calls Try.prog 42 #[rt n d] w fun e w' => e = .returned (.bool (Rat.right n d)) ∧ Below w.heap.size w w' := by
  by_cases h1 : d < 1
  · exact right_no n d w (Or.inl h1)
  by_cases h2 : 1000000000 < d
  · exact right_no n d w (Or.inr (Or.inl ⟨by omega, h2⟩))
  by_cases h3 : n < -1000000000
  · exact right_no n d w (Or.inr (Or.inr (Or.inl ⟨by omega, by omega, h3⟩)))
  by_cases h4 : 1000000000 < n
  · exact right_no n d w (Or.inr (Or.inr (Or.inr ⟨by omega, by omega, by omega, h4⟩)))
  exact right_yes n d w (by omega) (by omega) (by omega) (by omega)

theorem below_call1 {w w1 : World} {o : Obj} (hb : Below (w.alloc o).heap.size (w.alloc o) w1) (o' : Obj) : Below w.heap.size w (w1.alloc o') :=
  ((((Below.refl _ _).alloc (Nat.le_refl _) o).trans (hb.mono (by simp))).alloc (by have := hb.size; simp at this; omega) o')

/-- Are two ratios the same, term by term? -/
def eqR (a b c d : Int) : Bool := a == c && b == d
theorem eqR_iff (a b c d : Int) : eqR a b c d = true ↔ a = c ∧ b = d := by unfold eqR; simp
theorem eqR_self (a b : Int) : eqR a b a b = true := (eqR_iff _ _ _ _).2 ⟨rfl, rfl⟩

theorem guardR : Try.prog.eqGuardType Try.prog.depth 26 = false := by kernel_rfl
theorem eql_rt (a b c d : Int) (w : World) : (binOp .eql 26 (rt a b) (rt c d)).run Try.prog w = .ok (.bool (eqR a b c d)) w := by
  have u3 := Try.underlying3
  have a3 := Try.isAgg3
  have z3 := Try.sizeOf3
  have hS : Try.prog.underlying 26 = some (.struct (Try.prog.fieldsOf 26)) := by kernel_rfl
  have hp : Try.prog.stoodInHeld 26 = false := by kernel_rfl
  rw [run_eql_struct, show (10000 : Nat) = 9999 + 1 from rfl, run_equalIn_agg w 9999 26 _ _ hS hp]
  simp only [Program.fieldsOf, Try.underlying26]
  go_simp
  unfold eqR
  by_cases h1 : a = c <;> by_cases h2 : b = d <;> simp [h1, h2]
theorem neq_rt (a b c d : Int) (w : World) : (binOp .neq 26 (rt a b) (rt c d)).run Try.prog w = .ok (.bool (!eqR a b c d)) w := by
  have u3 := Try.underlying3
  have a3 := Try.isAgg3
  have z3 := Try.sizeOf3
  have hS : Try.prog.underlying 26 = some (.struct (Try.prog.fieldsOf 26)) := by kernel_rfl
  have hp : Try.prog.stoodInHeld 26 = false := by kernel_rfl
  rw [run_neq_struct, show (10000 : Nat) = 9999 + 1 from rfl, run_equalIn_agg w 9999 26 _ _ hS hp]
  simp only [Program.fieldsOf, Try.underlying26]
  go_simp
  unfold eqR
  by_cases h1 : a = c <;> by_cases h2 : b = d <;> simp [h1, h2]

/-- Right by way of Of. -/
theorem right_of {n d : Int} (h : 1 ≤ d) : Rat.right n d = (Rat.ofE n d == 0 && eqR n d (Rat.ofN n d) (Rat.ofD n d)) := by
  rw [Bool.eq_iff_iff, Rat.right_iff]
  constructor
  · intro hr
    obtain ⟨a, b, c⟩ := Rat.of_complete (n := n) (d := d) (by omega) hr rfl
    rw [a, b, c, eqR_self]; rfl
  · intro hr
    simp only [Bool.and_eq_true, beq_iff_eq, eqR_iff] at hr
    have := (Rat.of_sound hr.1).1
    rw [← hr.2.1, ← hr.2.2] at this
    exact this

set_option maxRecDepth 100000 in
set_option maxHeartbeats 1000000 in
theorem refRight_any (n d : Int) (w : World) (hn : Rat.I64 n) (hd : Rat.I64 d) :
    Calls Try.prog 44 #[rt n d] w fun e w' => e = .returned (.bool (Rat.right n d)) ∧ Below w.heap.size w w' := by
  by_cases h1 : d < 1
  · rw [right_d1 h1]
    go_enter Try.func44, Try.ntmps44
    go_wp2
    go_ret
    exact ⟨rfl, (by repeat (first | exact Below.refl _ _ | refine below_drewN ?_ _ | refine Below.drew ?_ | refine Below.setCell ?_ (by simp) _ | refine Below.alloc ?_ (by simp) _))⟩
  rw [right_of (by omega)]
  have hgR := guardR
  have heq := eql_rt
  cases hE : (Rat.ofE n d == 0)
  · go_enter Try.func44, Try.ntmps44
    go_wp2_with (go_at_call 29; refine (refOf_any _ _ _ hn hd).mono ?_; rintro e w1 ⟨rfl, hb⟩; obtain ⟨hc, hf⟩ := bcell hb; have hz : w.heap.size < w1.heap.size := by (have := hb.size; simp at this; omega))
    go_ret
    exact ⟨ret_bool rfl, below_call1 hb _⟩
  · go_enter Try.func44, Try.ntmps44
    go_wp2_with (go_at_call 29; refine (refOf_any _ _ _ hn hd).mono ?_; rintro e w1 ⟨rfl, hb⟩; obtain ⟨hc, hf⟩ := bcell hb; have hz : w.heap.size < w1.heap.size := by (have := hb.size; simp at this; omega))
    go_ret
    exact ⟨ret_bool rfl, below_call1 hb _⟩
end Go.Proofs.Ytlodhfdikglgoaa
