/-
  What the laws of layer 1 want of whole numbers.
-/
import Derived.Test.YtobhmiknlbjmkaaDoorVoRat
open Go.Proofs.YtobhmiknlbjmkaaDoor.Rat
namespace Go.Proofs.YtobhmiknlbjmkaaDoor

theorem right_true {n d : Int} (h : Rat.IsRight n d) : Rat.right n d = true := (Rat.right_iff _ _).2 h

theorem right_bounds {n d : Int} (h : Rat.IsRight n d) : 1 ≤ d ∧ d ≤ 1000000000 ∧ -1000000000 ≤ n ∧ n ≤ 1000000000 := by
  have hM := Rat.M_eq
  exact ⟨h.d1, by have := h.dM; omega, by have := h.n0; omega, by have := h.nM; omega⟩
theorem res_zero {n d : Int} (h : ofE n d ≠ 0) : ofN n d = 0 ∧ ofD n d = 0 := by
  unfold ofE at h
  unfold ofN ofD
  by_cases hd : d = 0
  · rw [if_pos hd, if_pos hd]; exact ⟨rfl, rfl⟩
  · rw [if_neg hd] at h
    rw [if_neg hd, if_neg hd]
    cases hb : big n d with
    | false => rw [hb] at h; exact absurd rfl h
    | true => exact ⟨rfl, rfl⟩

theorem mul_ne {a b : Int} (ha : a ≠ 0) (hb : b ≠ 0) : a * b ≠ 0 := Int.mul_ne_zero ha hb
theorem Rat.IsRight.ne {n d : Int} (h : IsRight n d) : d ≠ 0 := by have := h.d1; omega
theorem zero_right : IsRight 0 1 := by have := M_eq; exact ⟨by omega, by omega, by omega, by omega, by simp⟩
theorem unit_right : IsRight 1 1 := by have := M_eq; exact ⟨by omega, by omega, by omega, by omega, by simp⟩
theorem neg_right {n d : Int} (h : IsRight n d) : IsRight (-n) d := ⟨h.d1, h.dM, by have := h.nM; omega, by have := h.n0; omega, by rw [Int.natAbs_neg]; exact h.co⟩

/-- binN, binD, binE of two right ratios, and of one that is not. -/
theorem bin_yes {r : Bool} (h : r = true) (n d : Int) : binN r n d = ofN n d ∧ binD r n d = ofD n d ∧ binE r n d = ofE n d := by subst h; exact ⟨rfl, rfl, rfl⟩
theorem both_right {a b c d : Int} (h : IsRight a b) (k : IsRight c d) : (right a b && right c d) = true := by rw [right_true h, right_true k]; rfl
theorem bin_eq {a b c d n m p q : Int} (h : IsRight a b) (k : IsRight c d) (hm : m ≠ 0) (hr : IsRight p q) (e : p * m = n * q) :
    binN (right a b && right c d) n m = p ∧ binD (right a b && right c d) n m = q ∧ binE (right a b && right c d) n m = 0 := by
  obtain ⟨x, y, z⟩ := bin_yes (both_right h k) n m
  obtain ⟨u, v, w⟩ := of_complete hm hr e
  exact ⟨x.trans v, y.trans w, z.trans u⟩
/-- What is known of a deed's answer. -/
theorem bin_res {a b c d n m : Int} (h : IsRight a b) (k : IsRight c d) :
    (binE (right a b && right c d) n m = 0 ∧ IsRight (binN (right a b && right c d) n m) (binD (right a b && right c d) n m) ∧ binN (right a b && right c d) n m * m = n * binD (right a b && right c d) n m) ∨
    (binE (right a b && right c d) n m ≠ 0 ∧ binN (right a b && right c d) n m = 0 ∧ binD (right a b && right c d) n m = 0) := by
  obtain ⟨x, y, z⟩ := bin_yes (both_right h k) n m
  rw [x, y, z]
  by_cases he : ofE n m = 0
  · left
    obtain ⟨r, e, _⟩ := of_sound he
    exact ⟨he, r, e⟩
  · right
    obtain ⟨p, q⟩ := res_zero he
    exact ⟨he, p, q⟩

/-! ### What is added is taken out again -/
theorem sub_back {xn xd yn yd sn sd : Int} (hx : IsRight xn xd) (hy : IsRight yn yd) (hs : IsRight sn sd) (h : sn * (xd * yd) = (xn * yd + yn * xd) * sd) :
    binN (right sn sd && right yn yd) (sn * yd - yn * sd) (sd * yd) = xn ∧ binD (right sn sd && right yn yd) (sn * yd - yn * sd) (sd * yd) = xd ∧ binE (right sn sd && right yn yd) (sn * yd - yn * sd) (sd * yd) = 0 :=
  bin_eq hs hy (mul_ne hs.ne hy.ne) hx (by grind)
theorem div_back {xn xd yn yd mn md : Int} (hx : IsRight xn xd) (hy : IsRight yn yd) (hm : IsRight mn md) (h0 : yn ≠ 0) (h : mn * (xd * yd) = (xn * yn) * md) :
    binN (right mn md && right yn yd) (mn * yd) (md * yn) = xn ∧ binD (right mn md && right yn yd) (mn * yd) (md * yn) = xd ∧ binE (right mn md && right yn yd) (mn * yd) (md * yn) = 0 :=
  bin_eq hm hy (mul_ne hm.ne h0) hx (by grind)
theorem sub_self {xn xd : Int} (hx : IsRight xn xd) : binN (right xn xd && right xn xd) (xn * xd - xn * xd) (xd * xd) = 0 ∧ binD (right xn xd && right xn xd) (xn * xd - xn * xd) (xd * xd) = 1 ∧ binE (right xn xd && right xn xd) (xn * xd - xn * xd) (xd * xd) = 0 :=
  bin_eq hx hx (mul_ne hx.ne hx.ne) zero_right (by grind)
theorem div_self {yn yd : Int} (hy : IsRight yn yd) (h0 : yn ≠ 0) : binN (right yn yd && right yn yd) (yn * yd) (yd * yn) = 1 ∧ binD (right yn yd && right yn yd) (yn * yd) (yd * yn) = 1 ∧ binE (right yn yd && right yn yd) (yn * yd) (yd * yn) = 0 :=
  bin_eq hy hy (mul_ne hy.ne h0) unit_right (by grind)
theorem div_zero {yn yd : Int} (hy : IsRight yn yd) (h0 : yn = 0) : binN (right yn yd && right yn yd) (yn * yd) (yd * yn) = 0 ∧ binD (right yn yd && right yn yd) (yn * yd) (yd * yn) = 0 ∧ binE (right yn yd && right yn yd) (yn * yd) (yd * yn) = 11 := by
  subst h0
  obtain ⟨x, y, z⟩ := bin_yes (both_right hy hy) (0 * yd) (yd * 0)
  have e : yd * 0 = 0 := Int.mul_zero _
  rw [x, y, z, e]
  exact ⟨by unfold ofN; rw [if_pos rfl], by unfold ofD; rw [if_pos rfl], by unfold ofE; rw [if_pos rfl]⟩

/-! ### Sums and products change places, are taken together otherwise, and are taken apart -/
theorem comm_bin {a b c d n m n' m' : Int} (h : IsRight a b) (k : IsRight c d) (e1 : n' = n) (e2 : m' = m) :
    binN (right c d && right a b) n' m' = binN (right a b && right c d) n m ∧ binD (right c d && right a b) n' m' = binD (right a b && right c d) n m ∧ binE (right c d && right a b) n' m' = binE (right a b && right c d) n m := by
  subst e1; subst e2
  rw [both_right h k, both_right k h]
  exact ⟨rfl, rfl, rfl⟩
theorem add_assoc {xn xd yn yd zn zd sn sd ln ld un ud : Int} (hy : IsRight yn yd) (hz : IsRight zn zd) (hs : IsRight sn sd)
    (h1 : sn * (xd * yd) = (xn * yd + yn * xd) * sd) (h2 : ln * (sd * zd) = (sn * zd + zn * sd) * ld) (h3 : un * (yd * zd) = (yn * zd + zn * yd) * ud) : ln * (xd * ud) = (xn * ud + un * xd) * ld := by
  have hk : yd * zd * sd ≠ 0 := mul_ne (mul_ne hy.ne hz.ne) hs.ne
  have a1 : ln * (xd * ud) * (yd * zd * sd) = (ln * (sd * zd)) * (xd * yd * ud) := by grind
  have a2 : (sn * zd + zn * sd) * ld * (xd * yd * ud) = (sn * (xd * yd)) * (zd * ld * ud) + zn * sd * ld * xd * yd * ud := by grind
  have a3 : (xn * ud + un * xd) * ld * (yd * zd * sd) = xn * ud * ld * yd * zd * sd + (un * (yd * zd)) * (xd * ld * sd) := by grind
  refine Int.eq_of_mul_eq_mul_right hk ?_
  rw [a1, h2, a2, h1, a3, h3]
  grind
theorem mul_assoc' {xn xd yn yd zn zd mn md ln ld vn vd : Int} (hy : IsRight yn yd) (hz : IsRight zn zd) (hm : IsRight mn md)
    (h1 : mn * (xd * yd) = (xn * yn) * md) (h2 : ln * (md * zd) = (mn * zn) * ld) (h3 : vn * (yd * zd) = (yn * zn) * vd) : ln * (xd * vd) = (xn * vn) * ld := by
  have hk : yd * zd * md ≠ 0 := mul_ne (mul_ne hy.ne hz.ne) hm.ne
  have a1 : ln * (xd * vd) * (yd * zd * md) = (ln * (md * zd)) * (xd * yd * vd) := by grind
  have a2 : mn * zn * ld * (xd * yd * vd) = (mn * (xd * yd)) * (zn * ld * vd) := by grind
  have a3 : xn * vn * ld * (yd * zd * md) = (vn * (yd * zd)) * (xn * ld * md) := by grind
  refine Int.eq_of_mul_eq_mul_right hk ?_
  rw [a1, h2, a2, h1, a3, h3]
  grind
theorem distr {xn xd yn yd zn zd sn sd wn wd vn vd bn bd : Int} (hx : IsRight xn xd) (hy : IsRight yn yd) (hz : IsRight zn zd) (hw : IsRight wn wd) (hv : IsRight vn vd)
    (h1 : sn * (xd * yd) = (xn * yd + yn * xd) * sd) (h2 : wn * (xd * zd) = (xn * zn) * wd) (h3 : vn * (yd * zd) = (yn * zn) * vd) (h4 : bn * (wd * vd) = (wn * vd + vn * wd) * bd) : bn * (sd * zd) = (sn * zn) * bd := by
  have hk : wd * vd * (xd * yd * zd) ≠ 0 := mul_ne (mul_ne hw.ne hv.ne) (mul_ne (mul_ne hx.ne hy.ne) hz.ne)
  have a1 : bn * (sd * zd) * (wd * vd * (xd * yd * zd)) = (bn * (wd * vd)) * (sd * zd * xd * yd * zd) := by grind
  have a2 : (wn * vd + vn * wd) * bd * (sd * zd * xd * yd * zd) = (wn * (xd * zd)) * (vd * bd * sd * yd * zd) + (vn * (yd * zd)) * (wd * bd * sd * xd * zd) := by grind
  have a3 : sn * zn * bd * (wd * vd * (xd * yd * zd)) = (sn * (xd * yd)) * (zn * bd * wd * vd * zd) := by grind
  refine Int.eq_of_mul_eq_mul_right hk ?_
  rw [a1, h4, a2, h2, h3, a3, h1]
  grind

/-! ### One order -/
theorem sgn_cases (x : Int) : (x < 0 ∧ sgn x = -1) ∨ (x = 0 ∧ sgn x = 0) ∨ (0 < x ∧ sgn x = 1) := by
  unfold sgn
  by_cases h : x < 0
  · left; rw [if_pos h]; exact ⟨h, rfl⟩
  · by_cases h' : x = 0
    · right; left; rw [if_neg h, if_pos h']; exact ⟨h', rfl⟩
    · right; right; rw [if_neg h, if_neg h']; exact ⟨by omega, rfl⟩
theorem sgn_of_mul {a b k m : Int} (hk : 0 < k) (hm : 0 < m) (h : a * k = b * m) : sgn a = sgn b := by
  rcases sgn_cases a with ⟨ha, ea⟩ | ⟨ha, ea⟩ | ⟨ha, ea⟩ <;> rcases sgn_cases b with ⟨hb, eb⟩ | ⟨hb, eb⟩ | ⟨hb, eb⟩ <;> rw [ea, eb]
  all_goals exfalso
  · subst hb; have := Int.mul_neg_of_neg_of_pos ha hk; omega
  · have := Int.mul_neg_of_neg_of_pos ha hk; have := Int.mul_pos hb hm; omega
  · subst ha; have := Int.mul_neg_of_neg_of_pos hb hm; omega
  · subst ha; have := Int.mul_pos hb hm; omega
  · have := Int.mul_pos ha hk; have := Int.mul_neg_of_neg_of_pos hb hm; omega
  · subst hb; have := Int.mul_pos ha hk; omega
theorem cmp_yes {a b c d : Int} (h : IsRight a b) (k : IsRight c d) (x : Int) : cmpV (right a b && right c d) x = sgn x := by rw [both_right h k]; rfl
theorem eqR_sgn {a b c d : Int} (h : IsRight a b) (k : IsRight c d) : eqR a b c d = true ↔ a * d - c * b = 0 := by
  rw [eqR_iff]
  constructor
  · rintro ⟨rfl, rfl⟩; omega
  · intro e; exact right_unique h k (by omega)
theorem le_trans' {xn xd yn yd zn zd : Int} (hx : 1 ≤ xd) (hy : 1 ≤ yd) (hz : 1 ≤ zd) (h1 : xn * yd ≤ yn * xd) (h2 : yn * zd ≤ zn * yd) : xn * zd ≤ zn * xd := by
  have a := Int.mul_le_mul_of_nonneg_right h1 (show 0 ≤ zd by omega)
  have b := Int.mul_le_mul_of_nonneg_right h2 (show 0 ≤ xd by omega)
  have c : xn * zd * yd ≤ zn * xd * yd := by
    have e1 : xn * zd * yd = xn * yd * zd := by grind
    have e2 : yn * xd * zd = yn * zd * xd := by grind
    have e3 : zn * xd * yd = zn * yd * xd := by grind
    omega
  exact Int.le_of_mul_le_mul_right c (by omega)
theorem sum_sgn {xn xd yn yd zn zd sn sd tn td : Int} (hx : IsRight xn xd) (hy : IsRight yn yd) (hz : IsRight zn zd) (hs : IsRight sn sd) (ht : IsRight tn td)
    (h1 : sn * (xd * zd) = (xn * zd + zn * xd) * sd) (h2 : tn * (yd * zd) = (yn * zd + zn * yd) * td) : sgn (sn * td - tn * sd) = sgn (xn * yd - yn * xd) := by
  have p := hx.d1; have q := hy.d1; have r := hz.d1; have s := hs.d1; have t := ht.d1
  have P : 0 < xd * yd * zd * zd := Int.mul_pos (Int.mul_pos (Int.mul_pos (by omega) (by omega)) (by omega)) (by omega)
  have Q : 0 < sd * td * zd * zd := Int.mul_pos (Int.mul_pos (Int.mul_pos (by omega) (by omega)) (by omega)) (by omega)
  refine sgn_of_mul P Q ?_
  have a1 : (sn * td - tn * sd) * (xd * yd * zd * zd) = (sn * (xd * zd)) * (td * yd * zd) - (tn * (yd * zd)) * (sd * xd * zd) := by grind
  rw [a1, h1, h2]
  grind
end Go.Proofs.YtobhmiknlbjmkaaDoor
