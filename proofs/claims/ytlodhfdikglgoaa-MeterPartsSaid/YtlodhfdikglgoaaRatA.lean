/-
  The contracts of ratio's and the reference's inner functions: magnitude, divisor, size.
-/
import Derived.Test.YtlodhfdikglgoaaRows
import Derived.WalkKit
import Derived.WalkSpells
import Derived.WalkLawsBesides
import Derived.PlainAid
import Derived.Lib.Hide
import Derived.Deep.QuietTactic
import Derived.BigQuiet
import Derived.Test.YtlodhfdikglgoaaRatMath
namespace Go.Proofs.Ytlodhfdikglgoaa
open Go.RowKit

def U64 (n : Nat) : Prop := n ≤ 18446744073709551615
theorem u64_abs {n : Int} (h : Rat.I64 n) : U64 n.natAbs := by unfold Rat.I64 at h; unfold U64; omega
theorem wrap_neg {n : Int} (h : Rat.I64 n) (hn : n < 0) : IntKind.u64.wrap (-IntKind.u64.wrap n) = (n.natAbs : Int) := by
  unfold Rat.I64 at h; rw [IntKind.wrap_u64, IntKind.wrap_u64]; omega
theorem wrap_pos {n : Int} (h : Rat.I64 n) (hn : 0 ≤ n) : IntKind.u64.wrap n = (n.natAbs : Int) := by
  unfold Rat.I64 at h; rw [IntKind.wrap_u64]; omega
theorem ret_int {k : IntKind} {a b : Int} (h : a = b) : Ending.returned (.int k a) = .returned (.int k b) := by rw [h]

set_option maxHeartbeats 400000 in
theorem magnitude_any (n : Int) (w : World) (h : Rat.I64 n) :
    Calls Try.prog 51 #[.int .i64 n] w fun e w' => e = .returned (.int .u64 (n.natAbs : Int)) ∧ w = w' := by
  by_cases hn : n < 0
  · go_enter Try.func51, Try.ntmps51
    go_wp2
    go_ret
    exact ⟨ret_int (wrap_neg h hn), rfl⟩
  · go_enter Try.func51, Try.ntmps51
    go_wp2
    go_ret
    exact ⟨ret_int (wrap_pos h hn), rfl⟩

theorem u64_mod {p q : Nat} (hp : U64 p) (hq : U64 q) (h0 : q ≠ 0) : IntKind.u64.wrap ((p : Int).tmod (q : Int)) = ((p % q : Nat) : Int) := by
  unfold U64 at hp hq
  have h1 : (p : Int).tmod (q : Int) = ((p % q : Nat) : Int) := by rw [Int.tmod_eq_emod_of_nonneg (by omega)]; omega
  have h2 : p % q < q := Nat.mod_lt _ (by omega)
  rw [h1, IntKind.wrap_u64]; omega
theorem u64_mod_le {p q : Nat} (hq : U64 q) (h0 : q ≠ 0) : U64 (p % q) := by
  unfold U64 at *
  have h2 : p % q < q := Nat.mod_lt _ (by omega)
  omega

def GcdRel (a b : Nat) (w : World) (x y : Value) (w' : World) : Prop := ∃ p q : Nat, x = .int .u64 p ∧ y = .int .u64 q ∧ Nat.gcd p q = Nat.gcd a b ∧ U64 p ∧ U64 q ∧ ∃ k, w' = w.drewN k

set_option maxHeartbeats 400000 in
theorem divisor_any (a b : Nat) (w : World) (ha : U64 a) (hb : U64 b) :
    Calls Try.prog 52 #[.int .u64 (a : Int), .int .u64 (b : Int)] w fun e w' => e = .returned (.int .u64 (Nat.gcd a b : Nat)) ∧ ∃ k, w' = w.drewN k := by
  go_enter Try.func52, Try.ntmps52
  go_wp2
  go_loopw [0, 1] (GcdRel a b w) (fun _ y _ => (intOf y).toNat)
  case atStart => exact ⟨a, b, rfl, rfl, rfl, ha, hb, 0, rfl⟩
  case round =>
    obtain ⟨p, q, rfl, rfl, hg, hp, hq, k, rfl⟩ := hrel
    have HG := Lib.hid hg
    clear hg
    by_cases h0 : q = 0
    · subst h0
      have hz : (((0 : Nat) : Int) != 0) = false := by decide
      go_wp2
      go_ret
      exact ⟨ret_int (by have := HG.out; rw [Nat.gcd_zero_right] at this; rw [this]), k, rfl⟩
    · have hz : ((q : Int) != 0) = true := by simp; omega
      have hz2 : ((q : Int) == 0) = false := by simp; omega
      have hl := Nat.mod_lt p (Nat.pos_of_ne_zero h0)
      go_wp2
      go_quiet (fail)
      go_wp2
      refine ⟨⟨q, p % q, rfl, by simp, ?_, hq, u64_mod_le hq h0, k + nq, by simp [World.drewN, Nat.add_assoc]⟩, by simp [intOf]; omega⟩
      rw [← HG.out, Nat.gcd_comm q, ← Nat.gcd_rec, Nat.gcd_comm]

theorem size_neg {n : Int} (h : Rat.I64 n) (hn : n < 0) : IntKind.u64.wrap (IntKind.u64.wrap (wrap64 (-wrap64 (n + 1))) + 1) = (n.natAbs : Int) := by
  unfold Rat.I64 at h
  rw [IntKind.wrap_u64, IntKind.wrap_u64]; unfold wrap64; omega

set_option maxHeartbeats 400000 in
theorem size_any (n : Int) (w : World) (h : Rat.I64 n) :
    Calls Try.prog 53 #[.int .i64 n] w fun e w' => e = .returned (.int .u64 (n.natAbs : Int)) ∧ w = w' := by
  by_cases hn : n < 0
  · go_enter Try.func53, Try.ntmps53
    go_wp2
    go_ret
    exact ⟨ret_int (size_neg h hn), rfl⟩
  · go_enter Try.func53, Try.ntmps53
    go_wp2
    go_ret
    exact ⟨ret_int (wrap_pos h hn), rfl⟩

def GcdRel2 (a b : Nat) (x y : Value) : Prop := ∃ p q : Nat, x = .int .u64 p ∧ y = .int .u64 q ∧ Nat.gcd p q = Nat.gcd a b ∧ U64 p ∧ U64 q

set_option maxHeartbeats 400000 in
theorem refDivisor_any (a b : Nat) (w : World) (ha : U64 a) (hb : U64 b) :
    Calls Try.prog 54 #[.int .u64 (a : Int), .int .u64 (b : Int)] w fun e w' => e = .returned (.int .u64 (Nat.gcd a b : Nat)) ∧ w = w' := by
  go_enter Try.func54, Try.ntmps54
  go_wp2
  go_loop [0, 1] (GcdRel2 a b) (fun _ y => (intOf y).toNat)
  case atStart => exact ⟨a, b, rfl, rfl, rfl, ha, hb⟩
  case round =>
    obtain ⟨p, q, rfl, rfl, hg, hp, hq⟩ := hrel
    have HG := Lib.hid hg
    clear hg
    by_cases h0 : q = 0
    · subst h0
      have hz : (((0 : Nat) : Int) != 0) = false := by decide
      go_wp2
      go_ret
      exact ⟨ret_int (by have := HG.out; rw [Nat.gcd_zero_right] at this; rw [this]), rfl⟩
    · have hz : ((q : Int) != 0) = true := by simp; omega
      have hz2 : ((q : Int) == 0) = false := by simp; omega
      have hl := Nat.mod_lt p (Nat.pos_of_ne_zero h0)
      go_wp2
      refine ⟨⟨q, p % q, rfl, by simp, ?_, hq, u64_mod_le hq h0⟩, by simp [intOf]; omega⟩
      rw [← HG.out, Nat.gcd_comm q, ← Nat.gcd_rec, Nat.gcd_comm]
end Go.Proofs.Ytlodhfdikglgoaa
