/-
  RatioOrder holds: its ways put together.
-/
import Derived.Test.YtgndmaihhkhnpaaDoorRatOrder1
import Derived.Test.YtgndmaihhkhnpaaDoorRatOrder2
import Derived.Test.YtgndmaihhkhnpaaDoorRatOrder3
namespace Go.Proofs.YtgndmaihhkhnpaaDoor
open Go.RowKit

theorem ratioOrder_calls (a0 b0 a1 b1 a2 b2 : Int) (i0 : Rat.I64 a0) (j0 : Rat.I64 b0) (i1 : Rat.I64 a1) (j1 : Rat.I64 b1) (i2 : Rat.I64 a2) (j2 : Rat.I64 b2) (w : World) (hR : Ready w) : LawHolds 7 #[rt a0 b0, rt a1 b1, rt a2 b2] w := by
  obtain ⟨xn, xd, hx, hX⟩ := ratio_fix a0 b0 i0 j0
  obtain ⟨yn, yd, hy, hY⟩ := ratio_fix a1 b1 i1 j1
  obtain ⟨zn, zd, hz, hZ⟩ := ratio_fix a2 b2 i2 j2
  have k1 := cmp_yes hx hy (xn * yd - yn * xd)
  have k2 := cmp_yes hy hx (yn * xd - xn * yd)
  have k3 := cmp_yes hy hz (yn * zd - zn * yd)
  have k4 := cmp_yes hx hz (xn * zd - zn * xd)
  have q := eqR_sgn hx hy
  have px := hx.d1; have py := hy.d1; have pz := hz.d1
  have neg : Rat.sgn (yn * xd - xn * yd) = -Rat.sgn (xn * yd - yn * xd) := by
    rcases sgn_cases (xn * yd - yn * xd) with ⟨h, e⟩ | ⟨h, e⟩ | ⟨h, e⟩ <;> rcases sgn_cases (yn * xd - xn * yd) with ⟨h', e'⟩ | ⟨h', e'⟩ | ⟨h', e'⟩ <;> omega
  have qf : xn * yd - yn * xd ≠ 0 → eqR xn xd yn yd = false := fun h => by
    cases he : eqR xn xd yn yd with
    | false => rfl
    | true => exact absurd (q.1 he) h
  have tr : xn * yd - yn * xd ≤ 0 → yn * zd - zn * yd ≤ 0 → Rat.sgn (xn * zd - zn * xd) ≤ 0 := fun h1 h2 => by
    have := le_trans' px py pz (show xn * yd ≤ yn * xd by omega) (show yn * zd ≤ zn * yd by omega)
    rcases sgn_cases (xn * zd - zn * xd) with ⟨h, e⟩ | ⟨h, e⟩ | ⟨h, e⟩ <;> omega
  have s3 : (Rat.sgn (yn * zd - zn * yd) ≤ 0 ∧ yn * zd - zn * yd ≤ 0) ∨ 0 < Rat.sgn (yn * zd - zn * yd) := by
    rcases sgn_cases (yn * zd - zn * yd) with ⟨h, e⟩ | ⟨h, e⟩ | ⟨h, e⟩ <;> omega
  have sm := bin_res (n := xn * zd + zn * xd) (m := xd * zd) hx hz
  have tm := bin_res (n := yn * zd + zn * yd) (m := yd * zd) hy hz
  have c5 : binE (Rat.right xn xd && Rat.right zn zd) (xn * zd + zn * xd) (xd * zd) = 0 → binE (Rat.right yn yd && Rat.right zn zd) (yn * zd + zn * yd) (yd * zd) = 0 →
      cmpV (Rat.right (binN (Rat.right xn xd && Rat.right zn zd) (xn * zd + zn * xd) (xd * zd)) (binD (Rat.right xn xd && Rat.right zn zd) (xn * zd + zn * xd) (xd * zd)) && Rat.right (binN (Rat.right yn yd && Rat.right zn zd) (yn * zd + zn * yd) (yd * zd)) (binD (Rat.right yn yd && Rat.right zn zd) (yn * zd + zn * yd) (yd * zd)))
        (binN (Rat.right xn xd && Rat.right zn zd) (xn * zd + zn * xd) (xd * zd) * binD (Rat.right yn yd && Rat.right zn zd) (yn * zd + zn * yd) (yd * zd) - binN (Rat.right yn yd && Rat.right zn zd) (yn * zd + zn * yd) (yd * zd) * binD (Rat.right xn xd && Rat.right zn zd) (xn * zd + zn * xd) (xd * zd)) = Rat.sgn (xn * yd - yn * xd) := fun h1 h2 => by
    rcases sm with ⟨_, r1, e1⟩ | ⟨n1, _⟩
    · rcases tm with ⟨_, r2, e2⟩ | ⟨n2, _⟩
      · rw [cmp_yes r1 r2]; exact sum_sgn hx hy hz r1 r2 e1 e2
      · exact absurd h2 n2
    · exact absurd h1 n1
  clear sm tm
  by_cases hE : binE (Rat.right xn xd && Rat.right zn zd) (xn * zd + zn * xd) (xd * zd) = 0
  · by_cases hF : binE (Rat.right yn yd && Rat.right zn zd) (yn * zd + zn * yd) (yd * zd) = 0
    · have c5' := c5 hE hF
      rcases sgn_cases (xn * yd - yn * xd) with ⟨h, e⟩ | ⟨h, e⟩ | ⟨h, e⟩
      all_goals rw [e] at k1 neg c5'
      all_goals rw [neg] at k2
      · rcases s3 with ⟨h3, h3'⟩ | h3
        · exact order_mle_ok a0 b0 a1 b1 a2 b2 xn xd yn yd zn zd _ _ _ _ _ _ w hR (Lib.hid hX) (Lib.hid hY) (Lib.hid hZ) (Lib.hid k1) (Lib.hid k2) (qf (by omega)) (Lib.hid k3) h3 (Lib.hid k4) (tr (by omega) h3') (Lib.hid ⟨rfl, rfl, hE⟩) (Lib.hid ⟨rfl, rfl, hF⟩) (Lib.hid c5')
        · exact order_mgt_ok a0 b0 a1 b1 a2 b2 xn xd yn yd zn zd _ _ _ _ _ w hR (Lib.hid hX) (Lib.hid hY) (Lib.hid hZ) (Lib.hid k1) (Lib.hid k2) (qf (by omega)) (Lib.hid k3) h3 (Lib.hid ⟨rfl, rfl, hE⟩) (Lib.hid ⟨rfl, rfl, hF⟩) (Lib.hid c5')
      · rcases s3 with ⟨h3, h3'⟩ | h3
        · exact order_zle_ok a0 b0 a1 b1 a2 b2 xn xd yn yd zn zd _ _ _ _ _ _ w hR (Lib.hid hX) (Lib.hid hY) (Lib.hid hZ) (Lib.hid k1) (Lib.hid k2) (q.2 h) (Lib.hid k3) h3 (Lib.hid k4) (tr (by omega) h3') (Lib.hid ⟨rfl, rfl, hE⟩) (Lib.hid ⟨rfl, rfl, hF⟩) (Lib.hid c5')
        · exact order_zgt_ok a0 b0 a1 b1 a2 b2 xn xd yn yd zn zd _ _ _ _ _ w hR (Lib.hid hX) (Lib.hid hY) (Lib.hid hZ) (Lib.hid k1) (Lib.hid k2) (q.2 h) (Lib.hid k3) h3 (Lib.hid ⟨rfl, rfl, hE⟩) (Lib.hid ⟨rfl, rfl, hF⟩) (Lib.hid c5')
      · exact order_p_ok a0 b0 a1 b1 a2 b2 xn xd yn yd zn zd _ _ _ _ w hR (Lib.hid hX) (Lib.hid hY) (Lib.hid hZ) (Lib.hid k1) (Lib.hid k2) (qf (by omega)) (Lib.hid ⟨rfl, rfl, hE⟩) (Lib.hid ⟨rfl, rfl, hF⟩) (Lib.hid c5')
    · have hF' : (binE (Rat.right yn yd && Rat.right zn zd) (yn * zd + zn * yd) (yd * zd) != 0) = true := by simp [hF]
      rcases sgn_cases (xn * yd - yn * xd) with ⟨h, e⟩ | ⟨h, e⟩ | ⟨h, e⟩
      all_goals rw [e] at k1 neg
      all_goals rw [neg] at k2
      · rcases s3 with ⟨h3, h3'⟩ | h3
        · exact order_mle_f a0 b0 a1 b1 a2 b2 xn xd yn yd zn zd _ _ _ _ _ _ _ w hR (Lib.hid hX) (Lib.hid hY) (Lib.hid hZ) (Lib.hid k1) (Lib.hid k2) (qf (by omega)) (Lib.hid k3) h3 (Lib.hid k4) (tr (by omega) h3') (Lib.hid ⟨rfl, rfl, hE⟩) (Lib.hid ⟨rfl, rfl, rfl⟩) hF'
        · exact order_mgt_f a0 b0 a1 b1 a2 b2 xn xd yn yd zn zd _ _ _ _ _ _ w hR (Lib.hid hX) (Lib.hid hY) (Lib.hid hZ) (Lib.hid k1) (Lib.hid k2) (qf (by omega)) (Lib.hid k3) h3 (Lib.hid ⟨rfl, rfl, hE⟩) (Lib.hid ⟨rfl, rfl, rfl⟩) hF'
      · rcases s3 with ⟨h3, h3'⟩ | h3
        · exact order_zle_f a0 b0 a1 b1 a2 b2 xn xd yn yd zn zd _ _ _ _ _ _ _ w hR (Lib.hid hX) (Lib.hid hY) (Lib.hid hZ) (Lib.hid k1) (Lib.hid k2) (q.2 h) (Lib.hid k3) h3 (Lib.hid k4) (tr (by omega) h3') (Lib.hid ⟨rfl, rfl, hE⟩) (Lib.hid ⟨rfl, rfl, rfl⟩) hF'
        · exact order_zgt_f a0 b0 a1 b1 a2 b2 xn xd yn yd zn zd _ _ _ _ _ _ w hR (Lib.hid hX) (Lib.hid hY) (Lib.hid hZ) (Lib.hid k1) (Lib.hid k2) (q.2 h) (Lib.hid k3) h3 (Lib.hid ⟨rfl, rfl, hE⟩) (Lib.hid ⟨rfl, rfl, rfl⟩) hF'
      · exact order_p_f a0 b0 a1 b1 a2 b2 xn xd yn yd zn zd _ _ _ _ _ w hR (Lib.hid hX) (Lib.hid hY) (Lib.hid hZ) (Lib.hid k1) (Lib.hid k2) (qf (by omega)) (Lib.hid ⟨rfl, rfl, hE⟩) (Lib.hid ⟨rfl, rfl, rfl⟩) hF'
  · have hE' : (binE (Rat.right xn xd && Rat.right zn zd) (xn * zd + zn * xd) (xd * zd) != 0) = true := by simp [hE]
    rcases sgn_cases (xn * yd - yn * xd) with ⟨h, e⟩ | ⟨h, e⟩ | ⟨h, e⟩
    all_goals rw [e] at k1 neg
    all_goals rw [neg] at k2
    · rcases s3 with ⟨h3, h3'⟩ | h3
      · exact order_mle_e a0 b0 a1 b1 a2 b2 xn xd yn yd zn zd _ _ _ _ _ _ _ _ w hR (Lib.hid hX) (Lib.hid hY) (Lib.hid hZ) (Lib.hid k1) (Lib.hid k2) (qf (by omega)) (Lib.hid k3) h3 (Lib.hid k4) (tr (by omega) h3') (Lib.hid ⟨rfl, rfl, rfl⟩) (Lib.hid ⟨rfl, rfl, rfl⟩) hE'
      · exact order_mgt_e a0 b0 a1 b1 a2 b2 xn xd yn yd zn zd _ _ _ _ _ _ _ w hR (Lib.hid hX) (Lib.hid hY) (Lib.hid hZ) (Lib.hid k1) (Lib.hid k2) (qf (by omega)) (Lib.hid k3) h3 (Lib.hid ⟨rfl, rfl, rfl⟩) (Lib.hid ⟨rfl, rfl, rfl⟩) hE'
    · rcases s3 with ⟨h3, h3'⟩ | h3
      · exact order_zle_e a0 b0 a1 b1 a2 b2 xn xd yn yd zn zd _ _ _ _ _ _ _ _ w hR (Lib.hid hX) (Lib.hid hY) (Lib.hid hZ) (Lib.hid k1) (Lib.hid k2) (q.2 h) (Lib.hid k3) h3 (Lib.hid k4) (tr (by omega) h3') (Lib.hid ⟨rfl, rfl, rfl⟩) (Lib.hid ⟨rfl, rfl, rfl⟩) hE'
      · exact order_zgt_e a0 b0 a1 b1 a2 b2 xn xd yn yd zn zd _ _ _ _ _ _ _ w hR (Lib.hid hX) (Lib.hid hY) (Lib.hid hZ) (Lib.hid k1) (Lib.hid k2) (q.2 h) (Lib.hid k3) h3 (Lib.hid ⟨rfl, rfl, rfl⟩) (Lib.hid ⟨rfl, rfl, rfl⟩) hE'
    · exact order_p_e a0 b0 a1 b1 a2 b2 xn xd yn yd zn zd _ _ _ _ _ _ w hR (Lib.hid hX) (Lib.hid hY) (Lib.hid hZ) (Lib.hid k1) (Lib.hid k2) (qf (by omega)) (Lib.hid ⟨rfl, rfl, rfl⟩) (Lib.hid ⟨rfl, rfl, rfl⟩) hE'
end Go.Proofs.YtgndmaihhkhnpaaDoor
