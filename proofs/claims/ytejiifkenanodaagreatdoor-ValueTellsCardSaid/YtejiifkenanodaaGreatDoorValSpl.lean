/-
  So many units are always split, and one way; the contract of Split, of lengths of whole units.
-/
import Derived.Test.YtejiifkenanodaaGreatDoorValL
import Derived.Test.YtejiifkenanodaaGreatDoorValFacts
namespace Go.Proofs.YtejiifkenanodaaGreatDoor
open Go.RowKit

theorem fills_exists : ∀ (n : Nat) (u : Int), 0 ≤ u → u ≤ n → ∃ k, Val.Fills u k := by
  intro n
  induction n with
  | zero => intro u h0 h1; exact ⟨0, by simp only [Val.rm]; omega, fun j hj => by omega⟩
  | succ n ih =>
    intro u h0 h1
    by_cases hu : u = 0
    · exact ⟨0, by simp only [Val.rm]; omega, fun j hj => by omega⟩
    · obtain ⟨_, a, b, _⟩ := Val.fitK_lt (m := u) (by omega)
      have e : Val.rm u 1 = u - Val.gU u := rfl
      obtain ⟨k, h2, h3⟩ := ih (Val.rm u 1) (by omega) (by omega)
      refine ⟨k + 1, by rw [Val.rm_shift]; exact h2, fun j hj => ?_⟩
      cases j with
      | zero => simp only [Val.rm]; omega
      | succ j => rw [Val.rm_shift]; exact h3 j (by omega)
theorem fills_pos {u : Int} (hu : 1 ≤ u) {k : Nat} (h : Val.Fills u k) : 1 ≤ k := by
  rcases Nat.eq_zero_or_pos k with e | e
  · subst e; have := h.1; simp only [Val.rm] at this; omega
  · exact e
/-- What is split by a kind: the contract, with the row's length fixed ahead. -/
theorem split_kind {x y : Int} {i : Nat} (hi : i < 4) (h : Val.spK x y = i) {k : Nat} (hk : Val.Fills (Val.uI x y i) k) (w : World) (hR : Vars w) :
    Calls Tryz.prog 30 #[rt x y] w fun ed w' => (∃ v, ed = .returned (.tuple #[v, .int .i64 0]) ∧ Row w' v (prt (Val.uI x y i) (Val.kN i) (Val.kE i)) k) ∧ Below w.heap.size w w' := by
  refine (split_any x y w hR).mono ?_
  rintro ed w' ⟨⟨v, er, rfl, hs⟩, hb⟩
  rcases hs with ⟨h', _⟩ | ⟨i', k', hi', h', rfl, hf, _, hr⟩
  · omega
  · obtain rfl : i' = i := by omega
    obtain rfl := hf.unique hk
    exact ⟨⟨v, rfl, hr⟩, hb⟩
/-- Of so many plain units. -/
theorem plain_units {u : Int} (u1 : 1 ≤ u) (u2 : u ≤ 4096) : Val.spK (Rat.ofN u 64) (Rat.ofD u 64) = 0 ∧ Val.uI (Rat.ofN u 64) (Rat.ofD u 64) 0 = u := by
  have hs : Val.Small u 64 := ⟨by omega, by omega, by omega, by omega⟩
  have hr := hs.right
  have he := hs.eqn
  have hl := hs.le
  have hpos : 0 < Rat.ofN u 64 := by
    rcases Int.lt_or_eq_of_le hl.1 with h | h
    · exact h
    · exfalso
      rw [← h] at he
      have : 0 < u * Rat.ofD u 64 := Int.mul_pos (by omega) (by omega)
      omega
  have h64 : Rat.ofN u 64 ≤ 64 * Rat.ofD u 64 := by
    have : u * Rat.ofD u 64 ≤ 4096 * Rat.ofD u 64 := Int.mul_le_mul_of_nonneg_right u2 (by omega)
    omega
  have hm : Val.may (Rat.ofN u 64) (Rat.ofD u 64) = true := (may_iff _ _).2 ⟨hr, hpos, h64⟩
  have h0 : Val.unI (Rat.ofN u 64) (Rat.ofD u 64) 0 = true := by
    unfold Val.unI
    rw [show Val.mI 0 = 64 from rfl, he]
    exact decide_eq_true (Int.mul_emod_left _ _)
  refine ⟨?_, ?_⟩
  · unfold Val.spK
    rw [hm, if_pos rfl]
    exact Val.fst_found (by omega) (fun j hj => by omega) h0
  · unfold Val.uI
    rw [show Val.mI 0 = 64 from rfl, he]
    exact Int.mul_ediv_cancel _ (by omega)
/-- A counter, and nothing that was there has turned. -/
def CntRel (c : Nat) (w0 : World) (a : Value) (wr : World) : Prop := ∃ b : Nat, a = .int .i64 (b : Int) ∧ b ≤ c ∧ Below w0.heap.size w0 wr
theorem len_plain {u : Int} (u1 : 1 ≤ u) {i : Nat} (hi : i < 4) : Val.ok (Val.gB u) (Val.gT u) (Val.kN i) (Val.kE i) = true ∧ Val.lenN (Val.gB u) (Val.gT u) (Val.kN i) (Val.kE i) = Rat.ofN (Val.gU u) (Val.mI i) ∧ Val.lenD (Val.gB u) (Val.gT u) (Val.kN i) (Val.kE i) = Rat.ofD (Val.gU u) (Val.mI i) := by
  obtain ⟨a, b, c, d⟩ := Val.gB_bounds u1
  have := Val.len_units hi a b c d (Val.gU_eq u1)
  exact ⟨Val.k_ok hi a b c d, this.1, this.2⟩
end Go.Proofs.YtejiifkenanodaaGreatDoor
