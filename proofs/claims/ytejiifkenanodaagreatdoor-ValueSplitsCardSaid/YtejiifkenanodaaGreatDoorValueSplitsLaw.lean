/-
  ValueSplits answers true for every ratio.
-/
import Derived.Test.YtejiifkenanodaaGreatDoorValueSplits
namespace Go.Proofs.YtejiifkenanodaaGreatDoor
open Go.RowKit

theorem fnd_is {x y : Int} (h : Val.fnd x y < 84) : Val.lenN (Val.cB (Val.fnd x y)) (Val.cT (Val.fnd x y)) (Val.kN (Val.fnd x y / 21)) (Val.kE (Val.fnd x y / 21)) = x ∧ Val.lenD (Val.cB (Val.fnd x y)) (Val.cT (Val.fnd x y)) (Val.kN (Val.fnd x y / 21)) (Val.kE (Val.fnd x y / 21)) = y := by
  rcases Val.fst_spec (Val.isLen x y) 84 with ⟨e, _⟩ | ⟨_, e, _⟩
  · exfalso; unfold Val.fnd at h; omega
  · change Val.isLen x y (Val.fnd x y) = true at e
    unfold Val.isLen at e
    simpa using e
/-- Of what is found, and split: its one part. -/
theorem found_one {x y : Int} (h4 : Val.spK x y < 4) (h : Val.fnd x y < 84) : Val.gU (Val.uI x y (Val.spK x y)) = Val.uI x y (Val.spK x y) ∧ Val.gB (Val.uI x y (Val.spK x y)) = Val.cB (Val.fnd x y) ∧ Val.gT (Val.uI x y (Val.spK x y)) = Val.cT (Val.fnd x y) ∧ Val.kN (Val.spK x y) = Val.kN (Val.fnd x y / 21) ∧ Val.kE (Val.spK x y) = Val.kE (Val.fnd x y / 21) := by
  have e := fsp_all ⟨Val.fnd x y, h⟩
  obtain ⟨e1, e2⟩ := fnd_is h
  simp only at e
  rw [e1, e2] at e
  unfold fsp at e
  have n4 : (Val.spK x y == 4) = false := by simp; omega
  rw [n4] at e
  simpa using e
theorem spk_units {u : Int} (u1 : 1 ≤ u) (u2 : u ≤ 4096) {r : Nat} (hr : r < 4) : Val.spK (Rat.ofN u (Val.mI r)) (Rat.ofD u (Val.mI r)) < 4 := by
  have hm4 : 64 ≤ Val.mI r ∧ Val.mI r ≤ 112 := by rcases Val.mI_cases hr with ⟨_, e, _⟩ | ⟨_, e, _⟩ | ⟨_, e, _⟩ | ⟨_, e, _⟩ <;> omega
  have hs : Val.Small u (Val.mI r) := ⟨by omega, by omega, by omega, by omega⟩
  have hr' := hs.right
  have he := hs.eqn
  have hl := hs.le
  have hpos : 0 < Rat.ofN u (Val.mI r) := by
    rcases Int.lt_or_eq_of_le hl.1 with h | h
    · exact h
    · exfalso
      rw [← h] at he
      have : 0 < u * Rat.ofD u (Val.mI r) := Int.mul_pos (by omega) (by omega)
      omega
  have h64 : Rat.ofN u (Val.mI r) ≤ 64 * Rat.ofD u (Val.mI r) := by
    have h1 : u * Rat.ofD u (Val.mI r) ≤ 4096 * Rat.ofD u (Val.mI r) := Int.mul_le_mul_of_nonneg_right u2 (by omega)
    have h2 : Rat.ofN u (Val.mI r) * 64 ≤ Rat.ofN u (Val.mI r) * Val.mI r := Int.mul_le_mul_of_nonneg_left hm4.1 (by omega)
    omega
  have hm : Val.may (Rat.ofN u (Val.mI r)) (Rat.ofD u (Val.mI r)) = true := (may_iff _ _).2 ⟨hr', hpos, h64⟩
  have h0 : Val.unI (Rat.ofN u (Val.mI r)) (Rat.ofD u (Val.mI r)) r = true := by
    unfold Val.unI
    rw [he]
    exact decide_eq_true (Int.mul_emod_left _ _)
  unfold Val.spK
  rw [hm, if_pos rfl]
  unfold Val.kI
  rcases Val.fst_spec (Val.unI (Rat.ofN u (Val.mI r)) (Rat.ofD u (Val.mI r))) 4 with ⟨_, e⟩ | ⟨e, _⟩
  · rw [e r hr] at h0; cases h0
  · exact e
theorem lng_of {x y : Int} (h : Val.spK x y < 4) {k : Nat} (hk : Val.Fills (Val.uI x y (Val.spK x y)) k) : Lng x y (prt (Val.uI x y (Val.spK x y)) (Val.kN (Val.spK x y)) (Val.kE (Val.spK x y))) k := by
  obtain ⟨u1, u2, eN, eD⟩ := sp_units h rfl
  have hkn := (Val.rm_nonneg (u := Val.uI x y (Val.spK x y)) (by omega) hk.2).2
  rw [hk.1] at hkn
  have hmi := mI_le h
  have sm : ∀ j, j < k → Val.Small (Val.gU (Val.rm (Val.uI x y (Val.spK x y)) j)) (Val.mI (Val.spK x y)) := fun j hj => by
    obtain ⟨_, g1, g2, _⟩ := Val.fitK_lt (hk.2 j hj)
    have := rm_le (u := Val.uI x y (Val.spK x y)) (by omega) (n := j) (fun t ht => hk.2 t (by omega))
    exact ⟨by omega, by omega, by omega, by omega⟩
  have long : ∀ j, j < k → ∀ w, Vars w → Calls Tryz.prog 28 #[vl (Val.gB (Val.rm (Val.uI x y (Val.spK x y)) j)) (Val.gT (Val.rm (Val.uI x y (Val.spK x y)) j)) (Val.kN (Val.spK x y)) (Val.kE (Val.spK x y))] w fun ed w' => ed = .returned (rt (Rat.ofN (Val.gU (Val.rm (Val.uI x y (Val.spK x y)) j)) (Val.mI (Val.spK x y))) (Rat.ofD (Val.gU (Val.rm (Val.uI x y (Val.spK x y)) j)) (Val.mI (Val.spK x y)))) ∧ Below w.heap.size w w' := fun j hj w hR => by
    obtain ⟨_, a, b⟩ := len_plain (hk.2 j hj) h
    have := len_any (Val.gB (Val.rm (Val.uI x y (Val.spK x y)) j)) (Val.gT (Val.rm (Val.uI x y (Val.spK x y)) j)) (Val.kN (Val.spK x y)) (Val.kE (Val.spK x y)) w hR
    rw [a, b] at this
    exact this
  refine ⟨fills_pos u1 hk, by omega, fun w hR => split_kind h rfl hk w hR, fun w v hR hr => ?_, fun j hj w => ?_, fun j hj => ⟨rfl, rfl⟩, fun j hj => ⟨_, _, _, _, _, ?_, long j (by omega), long (j + 1) hj, fun w => cmp_call (sm j (by omega)) (sm (j + 1) hj) w⟩, ?_⟩
  · have := sum_split u1 u2 h hk w v hR hr
    rw [eN, eD] at this
    exact this
  · have := vright_any (Val.gB (Val.rm (Val.uI x y (Val.spK x y)) j)) (Val.gT (Val.rm (Val.uI x y (Val.spK x y)) j)) (Val.kN (Val.spK x y)) (Val.kE (Val.spK x y)) w
    rw [(len_plain (hk.2 j hj) h).1] at this
    exact this
  · have h2 := hk.2 (j + 1) hj
    have hle : Val.rm (Val.uI x y (Val.spK x y)) (j + 1) ≤ Val.rm (Val.uI x y (Val.spK x y)) j := by
      obtain ⟨_, g1, g2, _⟩ := Val.fitK_lt (hk.2 j (by omega))
      simp only [Val.rm]
      omega
    have hg := Val.gU_mono h2 hle
    have hp : Val.gU (Val.rm (Val.uI x y (Val.spK x y)) (j + 1)) * Val.mI (Val.spK x y) ≤ Val.gU (Val.rm (Val.uI x y (Val.spK x y)) j) * Val.mI (Val.spK x y) := Int.mul_le_mul_of_nonneg_right hg (by omega)
    rcases sgn_cases (Val.gU (Val.rm (Val.uI x y (Val.spK x y)) j) * Val.mI (Val.spK x y) - Val.gU (Val.rm (Val.uI x y (Val.spK x y)) (j + 1)) * Val.mI (Val.spK x y)) with ⟨q, r⟩ | ⟨q, r⟩ | ⟨q, r⟩ <;> omega
  · by_cases hf : Val.fnd x y < 84
    · obtain ⟨a1, a2, a3, a4, a5⟩ := found_one h hf
      refine .inl ⟨hk.unique ⟨?_, fun j hj => ?_⟩, fun w hR => ?_⟩
      · simp only [Val.rm]; omega
      · obtain rfl : j = 0 := by omega
        exact u1
      · have := find_any x y w hR
        unfold fv at this
        rw [if_pos hf, ← a2, ← a3, ← a4, ← a5] at this
        exact this
    · refine .inr fun w hR => ?_
      have := find_any x y w hR
      unfold fv at this
      rw [if_neg hf] at this
      exact this
theorem bb_all : ∀ r : Fin 4, (1 ≤ b0 r.val ∧ b0 r.val ≤ 4) ∧ (1 ≤ b1 r.val ∧ b1 r.val ≤ 7) ∧ b0 r.val * Val.mI r.val = 64 * b1 r.val := by decide
theorem valueSplits_calls (l e : Int) (il : Rat.I64 l) (_ie : Rat.I64 e) (w : World) (hR : Vars w) :
    Calls Tryz.prog 7 #[rt l e] w fun ed w' => ed = .returned (.bool true) ∧ Below w.heap.size w w' := by
  obtain ⟨p0, p1⟩ := pickS_bounds l (n := 4096) (by decide)
  obtain ⟨u, hu⟩ : ∃ u, 1 + pickS l 4096 = u := ⟨_, rfl⟩
  have u1 : 1 ≤ u := by omega
  have u2 : u ≤ 4096 := by omega
  have hu' : IntKind.i64.wrap (1 + pickS l 4096) = u := by rw [hu]; exact IntWalk.i64_in _ (by omega)
  have key : ∀ r : Nat, r < 4 → Val.Small (u * b0 r) (64 * b1 r) ∧ Val.spK (Rat.ofN (u * b0 r) (64 * b1 r)) (Rat.ofD (u * b0 r) (64 * b1 r)) < 4 := fun r hr => by
    obtain ⟨⟨a1, a2⟩, ⟨c1, c2⟩, e⟩ := bb_all ⟨r, hr⟩
    simp only at a1 a2 c1 c2 e
    have q1 : u * b0 r ≤ 4096 * 4 := Int.mul_le_mul u2 a2 (by omega) (by omega)
    have q0 : 0 ≤ u * b0 r := Int.mul_nonneg (by omega) (by omega)
    have s : Val.Small (u * b0 r) (64 * b1 r) := ⟨q0, by omega, by omega, by omega⟩
    have hm4 : 64 ≤ Val.mI r ∧ Val.mI r ≤ 112 := by rcases Val.mI_cases hr with ⟨_, e, _⟩ | ⟨_, e, _⟩ | ⟨_, e, _⟩ | ⟨_, e, _⟩ <;> omega
    have s' : Val.Small u (Val.mI r) := ⟨by omega, by omega, by omega, by omega⟩
    obtain ⟨x, y⟩ := Val.same_of s s' (by rw [Int.mul_assoc, e])
    rw [x, y]
    exact ⟨s, spk_units u1 u2 hr⟩
  have hk : ∀ r : Nat, ∃ k, r < 4 → Val.Fills (Val.uI (Rat.ofN (u * b0 r) (64 * b1 r)) (Rat.ofD (u * b0 r) (64 * b1 r)) (Val.spK (Rat.ofN (u * b0 r) (64 * b1 r)) (Rat.ofD (u * b0 r) (64 * b1 r)))) k := fun r => by
    by_cases hr : r < 4
    · obtain ⟨v1, v2, _⟩ := sp_units (key r hr).2 rfl
      obtain ⟨k, hk⟩ := fills_exists 7168 (Val.uI (Rat.ofN (u * b0 r) (64 * b1 r)) (Rat.ofD (u * b0 r) (64 * b1 r)) (Val.spK (Rat.ofN (u * b0 r) (64 * b1 r)) (Rat.ofD (u * b0 r) (64 * b1 r)))) (by omega) (by omega)
      exact ⟨k, fun _ => hk⟩
    · exact ⟨0, fun h => absurd h hr⟩
  have HQ := fun (r : Nat) (hr : r < 4) => by
    have s := (key r hr).1
    exact (⟨IntWalk.i64_in _ (by have := s.n0; have := s.n1; omega), IntWalk.i64_in _ (by have := s.d0; have := s.d1; omega), by have := s.n0; have := s.n1; unfold Rat.I64; omega, by have := s.d0; have := s.d1; unfold Rat.I64; omega, rfl, rfl, s.err, lng_of (key r hr).2 ((hk r).choose_spec hr)⟩ : IntKind.i64.wrap (u * b0 r) = u * b0 r ∧ IntKind.i64.wrap (64 * b1 r) = 64 * b1 r ∧ Rat.I64 (u * b0 r) ∧ Rat.I64 (64 * b1 r) ∧ Rat.ofN (u * b0 r) (64 * b1 r) = Rat.ofN (u * b0 r) (64 * b1 r) ∧ Rat.ofD (u * b0 r) (64 * b1 r) = Rat.ofD (u * b0 r) (64 * b1 r) ∧ Rat.ofE (u * b0 r) (64 * b1 r) = 0 ∧ Lng _ _ _ _)
  by_cases h4 : Val.spK l e < 4
  · obtain ⟨v1, v2, eN, eD⟩ := sp_units h4 rfl
    obtain ⟨m, hm⟩ := fills_exists 7168 (Val.uI l e (Val.spK l e)) (by omega) (by omega)
    refine valueSplits_yes l e w hR il _ u (Lib.hid rfl) hu' (fun r => u * b0 r) (fun r => 64 * b1 r) (fun r => Rat.ofN (u * b0 r) (64 * b1 r)) (fun r => Rat.ofD (u * b0 r) (64 * b1 r)) _ (fun r => (hk r).choose) (Lib.hid HQ) m _ (Lib.hid fun w hR => split_kind h4 rfl hm w hR) (Lib.hid fun w v hR hr => ?_)
    have := sum_split v1 v2 h4 hm w v hR hr
    rw [eN, eD] at this
    exact this
  · refine valueSplits_no l e w hR il _ u (Lib.hid rfl) hu' (fun r => u * b0 r) (fun r => 64 * b1 r) (fun r => Rat.ofN (u * b0 r) (64 * b1 r)) (fun r => Rat.ofD (u * b0 r) (64 * b1 r)) _ (fun r => (hk r).choose) (Lib.hid HQ) (Lib.hid fun w hR => (split_any l e w hR).mono ?_)
    rintro ed w' ⟨⟨v, er, rfl, ⟨_, rfl, rfl⟩ | ⟨i, k, hi, h, _⟩⟩, hb⟩
    · exact ⟨rfl, hb⟩
    · omega
end Go.Proofs.YtejiifkenanodaaGreatDoor
