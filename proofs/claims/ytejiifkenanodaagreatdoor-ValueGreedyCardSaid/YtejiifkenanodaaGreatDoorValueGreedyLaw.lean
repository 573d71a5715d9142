/-
  ValueGreedy answers true for every number.
-/
import Derived.Test.YtejiifkenanodaaGreatDoorValueGreedy
namespace Go.Proofs.YtejiifkenanodaaGreatDoor
open Go.RowKit

theorem ofN_pos {u m : Int} (h : Val.Small u m) (hu : 1 ≤ u) : 0 < Rat.ofN u m := by
  have he := h.eqn
  have hl := h.le
  rcases Int.lt_or_eq_of_le hl.1 with h | h
  · exact h
  · exfalso
    rw [← h] at he
    have : 0 < u * Rat.ofD u m := Int.mul_pos (by omega) (by omega)
    omega
theorem ofD_one {u m : Int} (h : Val.Small u m) (hd : Rat.ofD u m = 1) : u % m = 0 := by
  have he := h.eqn
  rw [hd, Int.mul_one] at he
  rw [← he]
  exact Int.mul_emod_left _ _
theorem fU_at {b d : Nat} (hd : d < 3) : Val.fU (3 * b + (2 - d)) = Val.ba b * Val.dt d := by
  unfold Val.fU Val.fB Val.fT
  rw [show (3 * b + (2 - d)) / 3 = b by omega, show (2 : Int) - (((3 * b + (2 - d)) % 3 : Nat) : Int) = (d : Int) by omega]
theorem valueGreedy_calls (a : Int) (ia : Rat.I64 a) (w : World) (hR : Vars w) :
    Calls Tryz.prog 8 #[.int .i64 a] w fun ed w' => ed = .returned (.bool true) ∧ Below w.heap.size w w' := by
  obtain ⟨p0, p1⟩ := pickS_bounds a (n := 4096) (by decide)
  obtain ⟨U, hU⟩ : ∃ U, 1 + pickS a 4096 = U := ⟨_, rfl⟩
  have u1 : 1 ≤ U := by omega
  have u2 : U ≤ 4096 := by omega
  obtain ⟨hsp, hun⟩ := plain_units u1 u2
  obtain ⟨k, hk⟩ := fills_exists 4096 U (by omega) (by omega)
  have hk1 := fills_pos u1 hk
  have hkn := (Val.rm_nonneg (u := U) (by omega) hk.2).2
  rw [hk.1] at hkn
  have su : Val.Small U 64 := ⟨by omega, by omega, by omega, by omega⟩
  obtain ⟨fo, fN, fD⟩ := len_plain u1 (i := 0) (by omega)
  rw [show Val.mI 0 = 64 from rfl, show Val.kN 0 = 0 from rfl, show Val.kE 0 = 0 from rfl] at fN fD
  obtain ⟨_, g1, g2, _⟩ := Val.fitK_lt u1
  have sg : Val.Small (Val.gU U) 64 := ⟨by omega, by omega, by omega, by omega⟩
  have sl : Val.Small (U - Val.gU U) 64 := ⟨by omega, by omega, by omega, by omega⟩
  have s64 : Val.Small 64 1 := ⟨by omega, by omega, by omega, by omega⟩
  have e64 : Rat.ofN 64 1 = 64 ∧ Rat.ofD 64 1 = 1 := by decide +kernel
  have hU' : IntKind.i64.wrap (1 + pickS a 4096) = U := by rw [hU]; exact IntWalk.i64_in _ (by omega)
  have HS : Hid (∀ w, Vars w → Calls Tryz.prog 30 #[rt (Rat.ofN U 64) (Rat.ofD U 64)] w fun ed w' => (∃ v, ed = .returned (.tuple #[v, .int .i64 0]) ∧ Row w' v (prt U 0 0) k) ∧ Below w.heap.size w w') := Lib.hid (fun w hR => by
    have := split_kind (i := 0) (by omega) hsp (k := k) (by rw [hun]; exact hk) w hR
    rw [hun] at this
    exact this)
  have HL : Hid (∀ w, Vars w → Calls Tryz.prog 28 #[vl (Val.gB U) (Val.gT U) 0 0] w fun ed w' => ed = .returned (rt (Rat.ofN (Val.gU U) 64) (Rat.ofD (Val.gU U) 64)) ∧ Below w.heap.size w w') := Lib.hid (fun w hR => by
    have := len_any (Val.gB U) (Val.gT U) 0 0 w hR
    rw [fN, fD] at this
    exact this)
  have HB : Hid (∀ b d : Nat, b < 7 → d < 3 → (∀ w, Vars w → Calls Tryz.prog 28 #[vl b d 0 0] w fun ed w' => ed = .returned (rt (Rat.ofN (Val.lnN b d 0 0) (Val.lnD 0)) (Rat.ofD (Val.lnN b d 0 0) (Val.lnD 0))) ∧ Below w.heap.size w w') ∧ (∃ er, ∀ w, Calls Tryz.prog 25 #[rt (Rat.ofN (Val.lnN b d 0 0) (Val.lnD 0)) (Rat.ofD (Val.lnN b d 0 0) (Val.lnD 0)), rt 64 1] w fun ed w' => ed = .returned (rv (Rat.ofN (Val.lnN b d 0 0) 4) (Rat.ofD (Val.lnN b d 0 0) 4) er) ∧ Below w.heap.size w w') ∧ (∀ w, Calls Tryz.prog 31 #[rt (Rat.ofN (Val.lnN b d 0 0) (Val.lnD 0)) (Rat.ofD (Val.lnN b d 0 0) (Val.lnD 0)), rt (Rat.ofN U 64) (Rat.ofD U 64)] w fun ed w' => ed = .returned (.int .i64 (Rat.sgn (Val.lnN b d 0 0 * 64 - U * Val.lnD 0))) ∧ Below w.heap.size w w') ∧ (∀ w, Calls Tryz.prog 31 #[rt (Rat.ofN (Val.lnN b d 0 0) (Val.lnD 0)) (Rat.ofD (Val.lnN b d 0 0) (Val.lnD 0)), rt (Rat.ofN (Val.gU U) 64) (Rat.ofD (Val.gU U) 64)] w fun ed w' => ed = .returned (.int .i64 (Rat.sgn (Val.lnN b d 0 0 * 64 - Val.gU U * Val.lnD 0))) ∧ Below w.heap.size w w') ∧ (Rat.ofD (Val.lnN b d 0 0) 4 = 1 → Rat.sgn (Val.lnN b d 0 0 * 64 - U * Val.lnD 0) ≤ 0 → Rat.sgn (Val.lnN b d 0 0 * 64 - Val.gU U * Val.lnD 0) ≤ 0)) := Lib.hid (fun b d hb hd => by
    have o : Val.ok b d 0 0 = true := (Val.ok_iff _ _ _ _).2 ⟨by omega, by omega, by omega, by omega, .inl ⟨rfl, rfl⟩⟩
    obtain ⟨s, e1, e2⟩ := Val.len_small o
    have hb2 := Val.ln_bounds o
    have s4 : Val.Small (Val.lnN b d 0 0) 4 := ⟨by omega, by omega, by omega, by omega⟩
    have hD : Val.lnD 0 = 256 := by decide
    have hN : Val.lnN b d 0 0 = Val.fU (3 * b + (2 - d)) := by
      rw [fU_at hd]; unfold Val.lnN Val.te; rw [if_pos rfl, Int.mul_one]
    refine ⟨fun w hR => ?_, ⟨0, fun w => ?_⟩, fun w => cmp_call s su w, fun w => cmp_call s sg w, fun h1 h2 => ?_⟩
    · have := len_any b d 0 0 w hR
      rw [e1, e2] at this
      exact this
    · have := mul_call s s64 s4 (by rw [hD]; grind) w
      rw [e64.1, e64.2] at this
      exact this
    · have h4 := ofD_one s4 h1
      rw [hD] at h2 ⊢
      have h5 : Val.lnN b d 0 0 * 64 - U * 256 ≤ 0 := by rcases sgn_cases (Val.lnN b d 0 0 * 64 - U * 256) with ⟨q, r⟩ | ⟨q, r⟩ | ⟨q, r⟩ <;> omega
      have h6 := Val.gU_max u1 (j := 3 * b + (2 - d)) (by omega) (by rw [← hN]; exact h4) (by rw [← hN]; omega)
      rw [← hN] at h6
      rcases sgn_cases (Val.lnN b d 0 0 * 64 - Val.gU U * 256) with ⟨q, r⟩ | ⟨q, r⟩ | ⟨q, r⟩ <;> omega)
  have HU := Lib.hid (fun w => sub_call su sg sl (by grind) w)
  have i64 : Rat.I64 64 := by unfold Rat.I64; omega
  have iU : Rat.I64 U := by unfold Rat.I64; omega
  by_cases hz : U - Val.gU U = 0
  · have z := Val.same_of (show Val.Small 0 64 from ⟨by omega, by omega, by omega, by omega⟩) (show Val.Small 0 1 from ⟨by omega, by omega, by omega, by omega⟩) (by simp)
    have h1 : Val.Fills U 1 := ⟨hz, fun j hj => by have e : j = 0 := (by omega); subst e; exact u1⟩
    refine valueGreedy_one a w hR ia _ U _ _ (Lib.hid rfl) hU' iU i64 (Lib.hid ⟨rfl, rfl, su.err⟩) (prt U 0 0) k hk1 (by omega) HS _ _ _ _ _ _ (Lib.hid rfl) HL _ _ _ _ _ _ HB _ _ HU ?_ (hk.unique h1)
    rw [hz, z.1]
    decide +kernel
  · obtain ⟨m, rfl⟩ : ∃ m, k = m + 1 := ⟨k - 1, by omega⟩
    have ht : Val.Fills (U - Val.gU U) m := hk.tail
    obtain ⟨hsp2, hun2⟩ := plain_units (u := U - Val.gU U) (by omega) (by omega)
    refine valueGreedy_more a w hR ia _ U _ _ (Lib.hid rfl) hU' iU i64 (Lib.hid ⟨rfl, rfl, su.err⟩) (prt U 0 0) (m + 1) hk1 (by omega) HS _ _ _ _ _ _ (Lib.hid rfl) HL _ _ _ _ _ _ HB _ _ HU ?_ (prt (U - Val.gU U) 0 0) m rfl (Lib.hid fun w hR => ?_) (Lib.hid fun i _ => ?_)
    · have := ofN_pos sl (by omega)
      simp
      omega
    · have := split_kind (i := 0) (by omega) hsp2 (k := m) (by rw [hun2]; exact ht) w hR
      rw [hun2] at this
      exact this
    · unfold prt
      rw [Val.rm_shift]
      rfl
end Go.Proofs.YtejiifkenanodaaGreatDoor
