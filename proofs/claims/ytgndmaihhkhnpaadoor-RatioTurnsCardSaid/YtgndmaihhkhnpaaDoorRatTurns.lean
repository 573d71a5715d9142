/-
  RatioTurns holds: its ways put together.
-/
import Derived.Test.YtgndmaihhkhnpaaDoorRatTurns1
import Derived.Test.YtgndmaihhkhnpaaDoorRatTurns2
import Derived.Test.YtgndmaihhkhnpaaDoorRatTurns3
import Derived.Test.YtgndmaihhkhnpaaDoorRatTurns4
namespace Go.Proofs.YtgndmaihhkhnpaaDoor
open Go.RowKit

theorem bin_right {a b c d n m p q e : Int} (h : Rat.IsRight a b) (k : Rat.IsRight c d) (hv : binN (Rat.right a b && Rat.right c d) n m = p ∧ binD (Rat.right a b && Rat.right c d) n m = q ∧ binE (Rat.right a b && Rat.right c d) n m = e) (he : e = 0) :
    Rat.IsRight p q ∧ p * m = n * q := by
  obtain ⟨rfl, rfl, rfl⟩ := hv
  rcases bin_res (n := n) (m := m) h k with ⟨_, hr, e⟩ | ⟨hne, _⟩
  · exact ⟨hr, e⟩
  · exact absurd he hne

theorem ratioTurns_calls (a0 b0 a1 b1 a2 b2 : Int) (i0 : Rat.I64 a0) (j0 : Rat.I64 b0) (i1 : Rat.I64 a1) (j1 : Rat.I64 b1) (i2 : Rat.I64 a2) (j2 : Rat.I64 b2) (w : World) (hR : Ready w) : LawHolds 5 #[rt a0 b0, rt a1 b1, rt a2 b2] w := by
  obtain ⟨xn, xd, hx, hX⟩ := ratio_fix a0 b0 i0 j0
  obtain ⟨yn, yd, hy, hY⟩ := ratio_fix a1 b1 i1 j1
  obtain ⟨zn, zd, hz, hZ⟩ := ratio_fix a2 b2 i2 j2
  obtain ⟨sn, sd, e, S1⟩ : ∃ p q e, binN (Rat.right xn xd && Rat.right yn yd) (xn * yd + yn * xd) (xd * yd) = p ∧ binD (Rat.right xn xd && Rat.right yn yd) (xn * yd + yn * xd) (xd * yd) = q ∧ binE (Rat.right xn xd && Rat.right yn yd) (xn * yd + yn * xd) (xd * yd) = e := ⟨_, _, _, rfl, rfl, rfl⟩
  obtain ⟨mn, md, g, M1⟩ : ∃ p q e, binN (Rat.right xn xd && Rat.right yn yd) (xn * yn) (xd * yd) = p ∧ binD (Rat.right xn xd && Rat.right yn yd) (xn * yn) (xd * yd) = q ∧ binE (Rat.right xn xd && Rat.right yn yd) (xn * yn) (xd * yd) = e := ⟨_, _, _, rfl, rfl, rfl⟩
  obtain ⟨ln, ld, i, A1⟩ : ∃ p q e, binN (Rat.right sn sd && Rat.right zn zd) (sn * zd + zn * sd) (sd * zd) = p ∧ binD (Rat.right sn sd && Rat.right zn zd) (sn * zd + zn * sd) (sd * zd) = q ∧ binE (Rat.right sn sd && Rat.right zn zd) (sn * zd + zn * sd) (sd * zd) = e := ⟨_, _, _, rfl, rfl, rfl⟩
  obtain ⟨un, ud, j, A2⟩ : ∃ p q e, binN (Rat.right yn yd && Rat.right zn zd) (yn * zd + zn * yd) (yd * zd) = p ∧ binD (Rat.right yn yd && Rat.right zn zd) (yn * zd + zn * yd) (yd * zd) = q ∧ binE (Rat.right yn yd && Rat.right zn zd) (yn * zd + zn * yd) (yd * zd) = e := ⟨_, _, _, rfl, rfl, rfl⟩
  obtain ⟨rn, rd, k, A3⟩ : ∃ p q e, binN (Rat.right xn xd && Rat.right un ud) (xn * ud + un * xd) (xd * ud) = p ∧ binD (Rat.right xn xd && Rat.right un ud) (xn * ud + un * xd) (xd * ud) = q ∧ binE (Rat.right xn xd && Rat.right un ud) (xn * ud + un * xd) (xd * ud) = e := ⟨_, _, _, rfl, rfl, rfl⟩
  obtain ⟨pn, pd, o, B1⟩ : ∃ p q e, binN (Rat.right mn md && Rat.right zn zd) (mn * zn) (md * zd) = p ∧ binD (Rat.right mn md && Rat.right zn zd) (mn * zn) (md * zd) = q ∧ binE (Rat.right mn md && Rat.right zn zd) (mn * zn) (md * zd) = e := ⟨_, _, _, rfl, rfl, rfl⟩
  obtain ⟨vn, vd, p, B2⟩ : ∃ p q e, binN (Rat.right yn yd && Rat.right zn zd) (yn * zn) (yd * zd) = p ∧ binD (Rat.right yn yd && Rat.right zn zd) (yn * zn) (yd * zd) = q ∧ binE (Rat.right yn yd && Rat.right zn zd) (yn * zn) (yd * zd) = e := ⟨_, _, _, rfl, rfl, rfl⟩
  obtain ⟨qn, qd, q, B3⟩ : ∃ p q e, binN (Rat.right xn xd && Rat.right vn vd) (xn * vn) (xd * vd) = p ∧ binD (Rat.right xn xd && Rat.right vn vd) (xn * vn) (xd * vd) = q ∧ binE (Rat.right xn xd && Rat.right vn vd) (xn * vn) (xd * vd) = e := ⟨_, _, _, rfl, rfl, rfl⟩
  obtain ⟨wn, wd, d, D1⟩ : ∃ p q e, binN (Rat.right xn xd && Rat.right zn zd) (xn * zn) (xd * zd) = p ∧ binD (Rat.right xn xd && Rat.right zn zd) (xn * zn) (xd * zd) = q ∧ binE (Rat.right xn xd && Rat.right zn zd) (xn * zn) (xd * zd) = e := ⟨_, _, _, rfl, rfl, rfl⟩
  obtain ⟨bn, bd, add, D2⟩ : ∃ p q e, binN (Rat.right wn wd && Rat.right vn vd) (wn * vd + vn * wd) (wd * vd) = p ∧ binD (Rat.right wn wd && Rat.right vn vd) (wn * vd + vn * wd) (wd * vd) = q ∧ binE (Rat.right wn wd && Rat.right vn vd) (wn * vd + vn * wd) (wd * vd) = e := ⟨_, _, _, rfl, rfl, rfl⟩
  obtain ⟨tn, td, mul, D3⟩ : ∃ p q e, binN (Rat.right sn sd && Rat.right zn zd) (sn * zn) (sd * zd) = p ∧ binD (Rat.right sn sd && Rat.right zn zd) (sn * zn) (sd * zd) = q ∧ binE (Rat.right sn sd && Rat.right zn zd) (sn * zn) (sd * zd) = e := ⟨_, _, _, rfl, rfl, rfl⟩
  have S2 : binN (Rat.right yn yd && Rat.right xn xd) (yn * xd + xn * yd) (yd * xd) = sn ∧ binD (Rat.right yn yd && Rat.right xn xd) (yn * xd + xn * yd) (yd * xd) = sd ∧ binE (Rat.right yn yd && Rat.right xn xd) (yn * xd + xn * yd) (yd * xd) = e := by
    obtain ⟨u, v, z⟩ := comm_bin hx hy (n := xn * yd + yn * xd) (m := xd * yd) (n' := yn * xd + xn * yd) (m' := yd * xd) (by grind) (by grind)
    exact ⟨u.trans S1.1, v.trans S1.2.1, z.trans S1.2.2⟩
  have M2 : binN (Rat.right yn yd && Rat.right xn xd) (yn * xn) (yd * xd) = mn ∧ binD (Rat.right yn yd && Rat.right xn xd) (yn * xn) (yd * xd) = md ∧ binE (Rat.right yn yd && Rat.right xn xd) (yn * xn) (yd * xd) = g := by
    obtain ⟨u, v, z⟩ := comm_bin hx hy (n := xn * yn) (m := xd * yd) (n' := yn * xn) (m' := yd * xd) (by grind) (by grind)
    exact ⟨u.trans M1.1, v.trans M1.2.1, z.trans M1.2.2⟩
  have HI : d = 0 → p = 0 → add = 0 → e = 0 → mul = 0 ∧ eqR tn td bn bd = true := fun h1 h2 h3 h4 => by
    obtain ⟨rs, es⟩ := bin_right hx hy S1 h4
    obtain ⟨rw', ew⟩ := bin_right hx hz D1 h1
    obtain ⟨rv', ev⟩ := bin_right hy hz B2 h2
    obtain ⟨rb, eb⟩ := bin_right rw' rv' D2 h3
    obtain ⟨u, v, z⟩ := bin_eq rs hz (mul_ne rs.ne hz.ne) rb (distr hx hy hz rw' rv' es ew ev eb)
    exact ⟨D3.2.2.symm.trans z, (eqR_iff _ _ _ _).2 ⟨D3.1.symm.trans u, D3.2.1.symm.trans v⟩⟩
  have HA : e = 0 → i = 0 → j = 0 → rn = ln ∧ rd = ld ∧ k = 0 := fun h1 h2 h3 => by
    obtain ⟨rs, es⟩ := bin_right hx hy S1 h1
    obtain ⟨rl, el⟩ := bin_right rs hz A1 h2
    obtain ⟨ru, eu⟩ := bin_right hy hz A2 h3
    obtain ⟨u, v, z⟩ := bin_eq hx ru (mul_ne hx.ne ru.ne) rl (add_assoc hy hz rs es el eu)
    exact ⟨A3.1.symm.trans u, A3.2.1.symm.trans v, A3.2.2.symm.trans z⟩
  have HB : g = 0 → o = 0 → p = 0 → qn = pn ∧ qd = pd ∧ q = 0 := fun h1 h2 h3 => by
    obtain ⟨rm, em⟩ := bin_right hx hy M1 h1
    obtain ⟨rp, ep⟩ := bin_right rm hz B1 h2
    obtain ⟨rv', ev⟩ := bin_right hy hz B2 h3
    obtain ⟨u, v, z⟩ := bin_eq hx rv' (mul_ne hx.ne rv'.ne) rp (mul_assoc' hy hz rm em ep ev)
    exact ⟨B3.1.symm.trans u, B3.2.1.symm.trans v, B3.2.2.symm.trans z⟩
  have nz : ∀ {x : Int}, x ≠ 0 → (x == 0) = false := fun h => by simp [h]
  clear i0 j0 i1 j1 i2 j2 hx hy hz
  by_cases hA : e = 0
  · subst hA
    by_cases hA : i = 0
    · subst hA
      by_cases hA : j = 0
      · subst hA
        obtain ⟨rfl, rfl, rfl⟩ := HA rfl rfl rfl
        by_cases hB : g = 0
        · subst hB
          by_cases hB : o = 0
          · subst hB
            by_cases hB : p = 0
            · subst hB
              obtain ⟨rfl, rfl, rfl⟩ := HB rfl rfl rfl
              exact turns_44 _ _ _ _ _ _ _ _ _ _ _ _ _ _ _ _ _ _ _ _ _ _ _ _ _ _ _ _ _ _ _ _ _ w hR (Lib.hid hX) (Lib.hid hY) (Lib.hid hZ) (Lib.hid S1) (Lib.hid S2) (Lib.hid M1) (Lib.hid M2) (Lib.hid A1) (Lib.hid A2) (Lib.hid A3) (Lib.hid B1) (Lib.hid B2) (Lib.hid B3) (Lib.hid D1) (Lib.hid D2) (Lib.hid D3) (Lib.hid fun h1 _ h3 _ => HI h1 rfl h3 rfl)
            · clear HB
              exact turns_43 _ _ _ _ _ _ _ _ _ _ _ _ _ _ _ _ _ _ _ _ _ _ _ _ _ _ _ _ _ _ _ _ _ _ _ _ _ w hR (Lib.hid hX) (Lib.hid hY) (Lib.hid hZ) (Lib.hid S1) (Lib.hid S2) (Lib.hid M1) (Lib.hid M2) (Lib.hid A1) (Lib.hid A2) (Lib.hid A3) (Lib.hid B1) (Lib.hid B2) (Lib.hid B3) (Lib.hid D1) (Lib.hid D2) (Lib.hid D3) (nz hB) (Lib.hid fun h1 h2 h3 _ => HI h1 h2 h3 rfl)
          · clear HB
            exact turns_42 _ _ _ _ _ _ _ _ _ _ _ _ _ _ _ _ _ _ _ _ _ _ _ _ _ _ _ _ _ _ _ _ _ _ _ _ _ _ w hR (Lib.hid hX) (Lib.hid hY) (Lib.hid hZ) (Lib.hid S1) (Lib.hid S2) (Lib.hid M1) (Lib.hid M2) (Lib.hid A1) (Lib.hid A2) (Lib.hid A3) (Lib.hid B1) (Lib.hid B2) (Lib.hid B3) (Lib.hid D1) (Lib.hid D2) (Lib.hid D3) (nz hB) (Lib.hid fun h1 h2 h3 _ => HI h1 h2 h3 rfl)
        · clear HB
          exact turns_41 _ _ _ _ _ _ _ _ _ _ _ _ _ _ _ _ _ _ _ _ _ _ _ _ _ _ _ _ _ _ _ _ _ _ _ _ _ _ _ w hR (Lib.hid hX) (Lib.hid hY) (Lib.hid hZ) (Lib.hid S1) (Lib.hid S2) (Lib.hid M1) (Lib.hid M2) (Lib.hid A1) (Lib.hid A2) (Lib.hid A3) (Lib.hid B1) (Lib.hid B2) (Lib.hid B3) (Lib.hid D1) (Lib.hid D2) (Lib.hid D3) (nz hB) (Lib.hid fun h1 h2 h3 _ => HI h1 h2 h3 rfl)
      · clear HA
        by_cases hB : g = 0
        · subst hB
          by_cases hB : o = 0
          · subst hB
            by_cases hB : p = 0
            · subst hB
              obtain ⟨rfl, rfl, rfl⟩ := HB rfl rfl rfl
              exact turns_34 _ _ _ _ _ _ _ _ _ _ _ _ _ _ _ _ _ _ _ _ _ _ _ _ _ _ _ _ _ _ _ _ _ _ _ _ _ w hR (Lib.hid hX) (Lib.hid hY) (Lib.hid hZ) (Lib.hid S1) (Lib.hid S2) (Lib.hid M1) (Lib.hid M2) (Lib.hid A1) (Lib.hid A2) (Lib.hid A3) (Lib.hid B1) (Lib.hid B2) (Lib.hid B3) (Lib.hid D1) (Lib.hid D2) (Lib.hid D3) (nz hA) (Lib.hid fun h1 _ h3 _ => HI h1 rfl h3 rfl)
            · clear HB
              exact turns_33 _ _ _ _ _ _ _ _ _ _ _ _ _ _ _ _ _ _ _ _ _ _ _ _ _ _ _ _ _ _ _ _ _ _ _ _ _ _ _ _ _ w hR (Lib.hid hX) (Lib.hid hY) (Lib.hid hZ) (Lib.hid S1) (Lib.hid S2) (Lib.hid M1) (Lib.hid M2) (Lib.hid A1) (Lib.hid A2) (Lib.hid A3) (Lib.hid B1) (Lib.hid B2) (Lib.hid B3) (Lib.hid D1) (Lib.hid D2) (Lib.hid D3) (nz hA) (nz hB) (Lib.hid fun h1 h2 h3 _ => HI h1 h2 h3 rfl)
          · clear HB
            exact turns_32 _ _ _ _ _ _ _ _ _ _ _ _ _ _ _ _ _ _ _ _ _ _ _ _ _ _ _ _ _ _ _ _ _ _ _ _ _ _ _ _ _ _ w hR (Lib.hid hX) (Lib.hid hY) (Lib.hid hZ) (Lib.hid S1) (Lib.hid S2) (Lib.hid M1) (Lib.hid M2) (Lib.hid A1) (Lib.hid A2) (Lib.hid A3) (Lib.hid B1) (Lib.hid B2) (Lib.hid B3) (Lib.hid D1) (Lib.hid D2) (Lib.hid D3) (nz hA) (nz hB) (Lib.hid fun h1 h2 h3 _ => HI h1 h2 h3 rfl)
        · clear HB
          exact turns_31 _ _ _ _ _ _ _ _ _ _ _ _ _ _ _ _ _ _ _ _ _ _ _ _ _ _ _ _ _ _ _ _ _ _ _ _ _ _ _ _ _ _ _ w hR (Lib.hid hX) (Lib.hid hY) (Lib.hid hZ) (Lib.hid S1) (Lib.hid S2) (Lib.hid M1) (Lib.hid M2) (Lib.hid A1) (Lib.hid A2) (Lib.hid A3) (Lib.hid B1) (Lib.hid B2) (Lib.hid B3) (Lib.hid D1) (Lib.hid D2) (Lib.hid D3) (nz hA) (nz hB) (Lib.hid fun h1 h2 h3 _ => HI h1 h2 h3 rfl)
    · clear HA
      by_cases hB : g = 0
      · subst hB
        by_cases hB : o = 0
        · subst hB
          by_cases hB : p = 0
          · subst hB
            obtain ⟨rfl, rfl, rfl⟩ := HB rfl rfl rfl
            exact turns_24 _ _ _ _ _ _ _ _ _ _ _ _ _ _ _ _ _ _ _ _ _ _ _ _ _ _ _ _ _ _ _ _ _ _ _ _ _ _ w hR (Lib.hid hX) (Lib.hid hY) (Lib.hid hZ) (Lib.hid S1) (Lib.hid S2) (Lib.hid M1) (Lib.hid M2) (Lib.hid A1) (Lib.hid A2) (Lib.hid A3) (Lib.hid B1) (Lib.hid B2) (Lib.hid B3) (Lib.hid D1) (Lib.hid D2) (Lib.hid D3) (nz hA) (Lib.hid fun h1 _ h3 _ => HI h1 rfl h3 rfl)
          · clear HB
            exact turns_23 _ _ _ _ _ _ _ _ _ _ _ _ _ _ _ _ _ _ _ _ _ _ _ _ _ _ _ _ _ _ _ _ _ _ _ _ _ _ _ _ _ _ w hR (Lib.hid hX) (Lib.hid hY) (Lib.hid hZ) (Lib.hid S1) (Lib.hid S2) (Lib.hid M1) (Lib.hid M2) (Lib.hid A1) (Lib.hid A2) (Lib.hid A3) (Lib.hid B1) (Lib.hid B2) (Lib.hid B3) (Lib.hid D1) (Lib.hid D2) (Lib.hid D3) (nz hA) (nz hB) (Lib.hid fun h1 h2 h3 _ => HI h1 h2 h3 rfl)
        · clear HB
          exact turns_22 _ _ _ _ _ _ _ _ _ _ _ _ _ _ _ _ _ _ _ _ _ _ _ _ _ _ _ _ _ _ _ _ _ _ _ _ _ _ _ _ _ _ _ w hR (Lib.hid hX) (Lib.hid hY) (Lib.hid hZ) (Lib.hid S1) (Lib.hid S2) (Lib.hid M1) (Lib.hid M2) (Lib.hid A1) (Lib.hid A2) (Lib.hid A3) (Lib.hid B1) (Lib.hid B2) (Lib.hid B3) (Lib.hid D1) (Lib.hid D2) (Lib.hid D3) (nz hA) (nz hB) (Lib.hid fun h1 h2 h3 _ => HI h1 h2 h3 rfl)
      · clear HB
        exact turns_21 _ _ _ _ _ _ _ _ _ _ _ _ _ _ _ _ _ _ _ _ _ _ _ _ _ _ _ _ _ _ _ _ _ _ _ _ _ _ _ _ _ _ _ _ w hR (Lib.hid hX) (Lib.hid hY) (Lib.hid hZ) (Lib.hid S1) (Lib.hid S2) (Lib.hid M1) (Lib.hid M2) (Lib.hid A1) (Lib.hid A2) (Lib.hid A3) (Lib.hid B1) (Lib.hid B2) (Lib.hid B3) (Lib.hid D1) (Lib.hid D2) (Lib.hid D3) (nz hA) (nz hB) (Lib.hid fun h1 h2 h3 _ => HI h1 h2 h3 rfl)
  · clear HA
    by_cases hB : g = 0
    · subst hB
      by_cases hB : o = 0
      · subst hB
        by_cases hB : p = 0
        · subst hB
          obtain ⟨rfl, rfl, rfl⟩ := HB rfl rfl rfl
          exact turns_14 _ _ _ _ _ _ _ _ _ _ _ _ _ _ _ _ _ _ _ _ _ _ _ _ _ _ _ _ _ _ _ _ _ _ _ _ _ _ _ w hR (Lib.hid hX) (Lib.hid hY) (Lib.hid hZ) (Lib.hid S1) (Lib.hid S2) (Lib.hid M1) (Lib.hid M2) (Lib.hid A1) (Lib.hid A2) (Lib.hid A3) (Lib.hid B1) (Lib.hid B2) (Lib.hid B3) (Lib.hid D1) (Lib.hid D2) (Lib.hid D3) (nz hA) (Lib.hid fun h1 _ h3 h4 => HI h1 rfl h3 h4)
        · clear HB
          exact turns_13 _ _ _ _ _ _ _ _ _ _ _ _ _ _ _ _ _ _ _ _ _ _ _ _ _ _ _ _ _ _ _ _ _ _ _ _ _ _ _ _ _ _ _ w hR (Lib.hid hX) (Lib.hid hY) (Lib.hid hZ) (Lib.hid S1) (Lib.hid S2) (Lib.hid M1) (Lib.hid M2) (Lib.hid A1) (Lib.hid A2) (Lib.hid A3) (Lib.hid B1) (Lib.hid B2) (Lib.hid B3) (Lib.hid D1) (Lib.hid D2) (Lib.hid D3) (nz hA) (nz hB) (Lib.hid fun h1 h2 h3 h4 => HI h1 h2 h3 h4)
      · clear HB
        exact turns_12 _ _ _ _ _ _ _ _ _ _ _ _ _ _ _ _ _ _ _ _ _ _ _ _ _ _ _ _ _ _ _ _ _ _ _ _ _ _ _ _ _ _ _ _ w hR (Lib.hid hX) (Lib.hid hY) (Lib.hid hZ) (Lib.hid S1) (Lib.hid S2) (Lib.hid M1) (Lib.hid M2) (Lib.hid A1) (Lib.hid A2) (Lib.hid A3) (Lib.hid B1) (Lib.hid B2) (Lib.hid B3) (Lib.hid D1) (Lib.hid D2) (Lib.hid D3) (nz hA) (nz hB) (Lib.hid fun h1 h2 h3 h4 => HI h1 h2 h3 h4)
    · clear HB
      exact turns_11 _ _ _ _ _ _ _ _ _ _ _ _ _ _ _ _ _ _ _ _ _ _ _ _ _ _ _ _ _ _ _ _ _ _ _ _ _ _ _ _ _ _ _ _ _ w hR (Lib.hid hX) (Lib.hid hY) (Lib.hid hZ) (Lib.hid S1) (Lib.hid S2) (Lib.hid M1) (Lib.hid M2) (Lib.hid A1) (Lib.hid A2) (Lib.hid A3) (Lib.hid B1) (Lib.hid B2) (Lib.hid B3) (Lib.hid D1) (Lib.hid D2) (Lib.hid D3) (nz hA) (nz hB) (Lib.hid fun h1 h2 h3 h4 => HI h1 h2 h3 h4)
end Go.Proofs.YtgndmaihhkhnpaaDoor
