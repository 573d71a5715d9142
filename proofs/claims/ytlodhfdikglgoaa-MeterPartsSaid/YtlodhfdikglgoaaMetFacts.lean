/-
  What the laws of layer 5 want of whole numbers: places, weights, pieces.
-/
import Derived.Test.YtlodhfdikglgoaaMetMath
open Go.Proofs.Ytlodhfdikglgoaa.Rat
namespace Go.Proofs.Ytlodhfdikglgoaa
namespace Met

/-! ### Whole numbers of parts -/
theorem cop {a b D : Int} (h : Rat.IsRight a b) : (a * D) % b = 0 ↔ D % b = 0 := by
  have hb := h.d1
  have e : ∀ x : Int, x % b = 0 ↔ b.natAbs ∣ x.natAbs := fun x => by rw [← Int.dvd_iff_emod_eq_zero, Int.natAbs_dvd_natAbs]
  rw [e, e, Int.natAbs_mul]
  exact ⟨fun k => Nat.Coprime.dvd_of_dvd_mul_left (Nat.Coprime.symm (by unfold Nat.Coprime; exact h.co)) k, fun k => Nat.dvd_mul_left_of_dvd k _⟩
theorem Is.den {p : Pr} {a D : Int} (h : Is p a D) : D % p.2 = 0 := by
  have he := h.e
  exact (cop h.r).1 (by rw [he]; exact Int.mul_emod_left _ _)
theorem sgn_lt {x : Int} : Rat.sgn x < 0 ↔ x < 0 := by rcases sgn_cases x with ⟨a, b⟩ | ⟨a, b⟩ | ⟨a, b⟩ <;> rw [b] <;> omega
theorem sgn_gt {x : Int} : 0 < Rat.sgn x ↔ 0 < x := by rcases sgn_cases x with ⟨a, b⟩ | ⟨a, b⟩ | ⟨a, b⟩ <;> rw [b] <;> omega
theorem sgn_le {x : Int} : Rat.sgn x ≤ 0 ↔ x ≤ 0 := by rcases sgn_cases x with ⟨a, b⟩ | ⟨a, b⟩ | ⟨a, b⟩ <;> rw [b] <;> omega
theorem sgn_ge {x : Int} : 0 ≤ Rat.sgn x ↔ 0 ≤ x := by rcases sgn_cases x with ⟨a, b⟩ | ⟨a, b⟩ | ⟨a, b⟩ <;> rw [b] <;> omega

section
variable {N D : Int} {gs : List Int} (h : IsRight N D gs) {S : Int} (s1 : 1 ≤ S) (s12 : S ≤ 12)
include h s1 s12
theorem dd_b : 1 ≤ D * S ∧ D * S ≤ 768 := by
  have d1 := h.d1; have d64 := h.d64
  have h1 : 1 * 1 ≤ D * S := Int.mul_le_mul d1 s1 (by omega) (by omega)
  have h2 : D * S ≤ 64 * 12 := Int.mul_le_mul d64 s12 (by omega) (by omega)
  omega
theorem ns_b : 1 ≤ N * S ∧ N * S ≤ 384 := by
  have d1 := h.n1; have d64 := h.n32
  have h1 : 1 * 1 ≤ N * S := Int.mul_le_mul d1 s1 (by omega) (by omega)
  have h2 : N * S ≤ 32 * 12 := Int.mul_le_mul d64 s12 (by omega) (by omega)
  omega
/-- A place, in parts by S. -/
theorem pl {K : Int} (k0 : -400 ≤ K) (k1 : K ≤ 400) : Is (of K (D * S)) K (D * S) := by
  obtain ⟨a, b⟩ := dd_b h s1 s12
  exact is_of a (by omega) (by omega) (by omega)
omit s12 in
theorem bar_is : Is (of N D) (N * S) (D * S) := h.bar.scale s1
omit s12 in
theorem in_bar {p : Pr} {K : Int} (hp : Is p K (D * S)) (k0 : 0 ≤ K) (k1 : K < N * S) : inB N D p = true := by
  unfold inB
  rw [hp.ok, decide_eq_true (hp.num_pos.2.2.2 k0), hp.cm (bar_is h s1), decide_eq_true (sgn_lt.2 (by omega))]
  rfl
end

section
variable {N D : Int} {gs : List Int} (h : IsRight N D gs) {S : Int} (s1 : 1 ≤ S)
include h s1
theorem bt_iff {p : Pr} {K : Int} (hp : Is p K (D * S)) : p ∈ bt N D gs ↔ ∃ k, k < (grp N D gs).length ∧ ah (grp N D gs) k * S = K := by
  constructor
  · intro hm
    obtain ⟨k, hk, rfl⟩ := bt_mem hm
    exact ⟨k, hk, ((h.beat hk).scale s1).inj hp⟩
  · rintro ⟨k, hk, e⟩
    have hb := (h.beat hk).scale s1
    rw [e] at hb
    rw [hp.unique hb]
    unfold bt
    exact List.mem_of_getElem? (bts_at hk)
/-- What a place weighs. -/
theorem wt_at {p : Pr} {K : Int} (hp : Is p K (D * S)) (hb : inB N D p = true) : wtE N D gs p = 0 ∧
    ((K = 0 ∧ wtV N D gs p = 3) ∨ (K ≠ 0 ∧ (∃ k, k < (grp N D gs).length ∧ ah (grp N D gs) k * S = K) ∧ wtV N D gs p = 2) ∨
     (K ≠ 0 ∧ (∀ k, k < (grp N D gs).length → ah (grp N D gs) k * S ≠ K) ∧ D % p.2 = 0 ∧ wtV N D gs p = 1) ∨ (K ≠ 0 ∧ (∀ k, k < (grp N D gs).length → ah (grp N D gs) k * S ≠ K) ∧ D % p.2 ≠ 0 ∧ wtV N D gs p = 0)) := by
  have hr := h.right
  refine ⟨by unfold wtE; rw [hr, hb]; rfl, ?_⟩
  unfold wtV
  rw [hr, hb]
  simp only [Bool.and_self, if_true]
  by_cases h0 : K = 0
  · rw [if_pos (hp.num_pos.2.1.2 h0)]; exact .inl ⟨h0, rfl⟩
  · rw [if_neg (fun e => h0 (hp.num_pos.2.1.1 e))]
    by_cases h1 : p ∈ bt N D gs
    · rw [if_pos h1]; exact .inr (.inl ⟨h0, (bt_iff h s1 hp).1 h1, rfl⟩)
    · rw [if_neg h1]
      have h2 : ∀ k, k < (grp N D gs).length → ah (grp N D gs) k * S ≠ K := fun k hk e => h1 ((bt_iff h s1 hp).2 ⟨k, hk, e⟩)
      by_cases h3 : D % p.2 = 0
      · rw [if_pos h3]; exact .inr (.inr (.inl ⟨h0, h2, h3, rfl⟩))
      · rw [if_neg h3]; exact .inr (.inr (.inr ⟨h0, h2, h3, rfl⟩))
end
/-- A whole number of parts. -/
theorem wt_part {N D : Int} {gs : List Int} (h : IsRight N D gs) {j : Int} (j0 : 0 ≤ j) (j1 : j < N) : wtE N D gs (of j D) = 0 ∧
    ((j = 0 ∧ wtV N D gs (of j D) = 3) ∨ (j ≠ 0 ∧ (∃ k, k < (grp N D gs).length ∧ ah (grp N D gs) k = j) ∧ wtV N D gs (of j D) = 2) ∨
     (j ≠ 0 ∧ (∀ k, k < (grp N D gs).length → ah (grp N D gs) k ≠ j) ∧ wtV N D gs (of j D) = 1)) := by
  have n32 := h.n32
  have d1 := h.d1
  have d64 := h.d64
  have hi : Is (of j D) j D := is_of (by omega) (by omega) (by omega) (by omega)
  have hi1 : Is (of j D) j (D * 1) := by rw [Int.mul_one]; exact hi
  obtain ⟨he, hw⟩ := wt_at h (S := 1) (by omega) hi1 (in_bar h (by omega) hi1 j0 (by omega))
  refine ⟨he, ?_⟩
  rcases hw with hw | ⟨a, ⟨k, hk, e⟩, b⟩ | ⟨a, c, _, b⟩ | ⟨_, _, c, _⟩
  · exact .inl hw
  · exact .inr (.inl ⟨a, ⟨k, hk, by omega⟩, b⟩)
  · exact .inr (.inr ⟨a, fun k hk e => c k hk (by omega), b⟩)
  · exact absurd hi.den c

/-! ### Pieces: both ways -/
theorem cm_gt {x y : Pr} (hx : Rat.IsRight x.1 x.2) (hy : Rat.IsRight y.1 y.2) : 0 < cm x y ↔ y.1 * x.2 < x.1 * y.2 := by
  unfold cm
  rw [cmp_yes hx hy, sgn_gt]
  omega
theorem cm_trans {x y z : Pr} (hx : Rat.IsRight x.1 x.2) (hy : Rat.IsRight y.1 y.2) (hz : Rat.IsRight z.1 z.2) (h1 : 0 < cm x y) (h2 : 0 < cm y z) : 0 < cm x z := by
  rw [cm_gt hx hy] at h1
  rw [cm_gt hy hz] at h2
  rw [cm_gt hx hz]
  have hx1 := hx.d1
  have hy1 := hy.d1
  have hz1 := hz.d1
  have a := Int.mul_lt_mul_of_pos_right h2 (show 0 < x.2 by omega)
  have b := Int.mul_lt_mul_of_pos_right h1 (show 0 < z.2 by omega)
  have c : z.1 * x.2 * y.2 < x.1 * z.2 * y.2 := by
    have e1 : z.1 * y.2 * x.2 = z.1 * x.2 * y.2 := by grind
    have e2 : y.1 * z.2 * x.2 = y.1 * x.2 * z.2 := by grind
    have e3 : x.1 * y.2 * z.2 = x.1 * z.2 * y.2 := by grind
    omega
  exact Int.lt_of_mul_lt_mul_right c (by omega)
def comb (acc : List Pr) (r : Int × List Pr) : Int × List Pr := if r.1 ≠ 0 then (r.1, []) else (0, acc ++ r.2)
theorem pcR_cons (f t : Pr) (ts : List Pr) : pcR (f :: t :: ts) = if sbE t f ≠ 0 then (sbE t f, []) else comb [sb t f] (pcR (t :: ts)) := by
  rw [pcR]
  split
  · rfl
  · unfold comb
    split
    · rfl
    · rename_i h; simp at h; rw [h]; rfl
theorem comb_comb (a b : List Pr) (r : Int × List Pr) : comb a (comb b r) = comb (a ++ b) r := by
  unfold comb
  by_cases h : r.1 = 0
  · simp [h]
  · simp [h]
theorem fin_last (en f : Pr) (acc : List Pr) : fin en (0, f, acc) = comb acc (pcR [f, en]) := by
  unfold fin
  rw [pcR_cons, if_neg (by simp)]
  by_cases h : sbE en f = 0
  · rw [if_neg (by simpa using h), if_neg (by simpa using h)]; rfl
  · rw [if_pos h, if_pos h]; unfold comb; rw [if_pos (by exact h)]
theorem fold_mid (en at_ : Pr) (ha : Rat.IsRight at_.1 at_.2) : ∀ (bs : List Pr) (f : Pr) (acc : List Pr), (∀ b ∈ bs, Rat.IsRight b.1 b.2) → bs.Pairwise (fun x y => 0 < cm y x) →
    (f = at_ ∨ ∀ b ∈ bs, 0 < cm b f ∧ 0 < cm b at_) → fin en (bs.foldl (stp en) (0, f, acc)) = comb acc (pcR (f :: (mid at_ en bs ++ [en])))
  | [], f, acc, _, _, _ => fin_last en f acc
  | b :: bs, f, acc, hr, hp, hf => by
    have hrb := hr b (List.mem_cons_self ..)
    have hr' := fun x hx => hr x (List.mem_cons_of_mem b hx)
    obtain ⟨hpb, hp'⟩ := List.pairwise_cons.1 hp
    rw [List.foldl_cons]
    have key : (cm b f ≤ 0 ∨ 0 ≤ cm b en) ↔ ¬ (0 < cm b at_ ∧ cm b en < 0) := by
      rcases hf with rfl | hf
      · omega
      · have := hf b (List.mem_cons_self ..); omega
    by_cases ht : cm b f ≤ 0 ∨ 0 ≤ cm b en
    · have hs : stp en (0, f, acc) b = (0, f, acc) := by unfold stp; rw [if_neg (by simp), if_pos ht]
      have hm : mid at_ en (b :: bs) = mid at_ en bs := by
        unfold mid
        rw [List.filter_cons_of_neg]
        have := key.1 ht
        simp only [Bool.and_eq_true, decide_eq_true_eq]
        exact this
      rw [hs, hm]
      exact fold_mid en at_ ha bs f acc hr' hp' (hf.imp id fun g x hx => g x (List.mem_cons_of_mem b hx))
    · have hc : 0 < cm b at_ ∧ cm b en < 0 := by
        have := mt key.2 ht
        omega
      have hs : stp en (0, f, acc) b = (sbE b f, b, acc ++ [sb b f]) := by unfold stp; rw [if_neg (by simp), if_neg ht]
      have hm : mid at_ en (b :: bs) = b :: mid at_ en bs := by
        unfold mid
        rw [List.filter_cons_of_pos]
        simp only [Bool.and_eq_true, decide_eq_true_eq]
        exact hc
      rw [hs, hm, List.cons_append, pcR_cons]
      by_cases he : sbE b f = 0
      · rw [he, if_neg (by simp), comb_comb]
        exact fold_mid en at_ ha bs b _ hr' hp' (.inr fun x hx => ⟨hpb x hx, cm_trans (hr' x hx) hrb ha (hpb x hx) hc.1⟩)
      · rw [if_pos he, stp_err _ _ (by exact he)]
        unfold fin comb
        rw [if_pos (by exact he), if_pos (by exact he)]
theorem IsRight.rising {N D : Int} {gs : List Int} (h : IsRight N D gs) : (∀ b ∈ bt N D gs, Rat.IsRight b.1 b.2) ∧ (bt N D gs).Pairwise (fun x y => 0 < cm y x) := by
  refine ⟨fun b hb => ?_, ?_⟩
  · obtain ⟨k, hk, rfl⟩ := bt_mem hb
    exact (h.beat hk).r
  · unfold bt bts
    rw [List.pairwise_map]
    refine List.Pairwise.imp_of_mem (R := fun a b => a < b) ?_ List.pairwise_lt_range
    intro a b ha hb hab
    have hb' := List.mem_range.1 hb
    have ha' := List.mem_range.1 ha
    rw [(h.beat hb').cm (h.beat ha'), sgn_gt]
    have := ah_mono h.pos hab (by omega)
    omega
/-- THE PROGRAM's PIECES ARE THE REFERENCE's. -/
theorem pcs_eq {N D : Int} {gs : List Int} (h : IsRight N D gs) {at_ en : Pr} (ha : Rat.IsRight at_.1 at_.2) : pcs N D gs at_ en = pcR (at_ :: (mid at_ en (bt N D gs) ++ [en])) := by
  obtain ⟨h1, h2⟩ := h.rising
  unfold pcs run
  rw [fold_mid en at_ ha _ _ _ h1 h2 (.inl rfl)]
  unfold comb
  split
  · rename_i h0
    have : ∀ l : List Pr, (pcR l).1 ≠ 0 → (pcR l).2 = [] := by
      intro l hl
      match l with
      | [] => rfl
      | [_] => rfl
      | f :: t :: ts =>
        rw [pcR_cons] at hl ⊢
        by_cases he : sbE t f = 0
        · rw [if_neg (by simpa using he)] at hl ⊢
          unfold comb at hl ⊢
          by_cases hx : (pcR (t :: ts)).1 = 0
          · rw [if_neg (by simpa using hx)] at hl; exact absurd rfl hl
          · rw [if_pos hx]
        · rw [if_pos he]
    exact Prod.ext rfl (this _ h0).symm
  · rename_i h0
    simp at h0
    exact Prod.ext h0.symm (by simp)

/-! ### Pieces in whole numbers -/
def dif : List Int → List Int
  | [] => []
  | [_] => []
  | a :: b :: l => (b - a) :: dif (b :: l)
theorem dif_length : ∀ l : List Int, (dif l).length = l.length - 1
  | [] => rfl
  | [_] => rfl
  | a :: b :: l => by rw [dif, List.length_cons, dif_length (b :: l)]; simp
theorem dif_at : ∀ (l : List Int) (i : Nat) (x y : Int), l[i]? = some x → l[i + 1]? = some y → (dif l)[i]? = some (y - x)
  | [], i, x, y, h, _ => by simp at h
  | [_], i, x, y, _, h => by simp at h
  | a :: b :: l, 0, x, y, h, k => by simp at h k; subst h k; rfl
  | a :: b :: l, i + 1, x, y, h, k => by rw [dif]; exact dif_at (b :: l) i x y (by simpa using h) (by simpa using k)
theorem dif_append : ∀ (l : List Int) (x y : Int) (m : List Int), dif (l ++ x :: y :: m) = dif (l ++ [x]) ++ (y - x) :: dif (y :: m)
  | [], x, y, m => by simp [dif]
  | [a], x, y, m => by simp [dif]
  | a :: b :: l, x, y, m => by
    have := dif_append (b :: l) x y m
    simp only [List.cons_append] at this ⊢
    rw [dif, this, dif, List.cons_append]
/-- The places from K to E, parted at the beats bs. -/
def zs (K E : Int) (bs : List Int) : List Int := K :: (bs.filter (fun b => decide (K < b ∧ b < E)) ++ [E])
theorem zs_length (K E : Int) (bs : List Int) : (zs K E bs).length = (bs.filter (fun b => decide (K < b ∧ b < E))).length + 2 := by unfold zs; simp
theorem zs_sorted {K E : Int} {bs : List Int} (hK : K < E) (hb : bs.Pairwise (fun x y => x < y)) : (zs K E bs).Pairwise (fun x y => x < y) := by
  unfold zs
  rw [List.pairwise_cons]
  refine ⟨fun b hm => ?_, ?_⟩
  · rcases List.mem_append.1 hm with hm | hm
    · have := (List.mem_filter.1 hm).2; simp at this; exact this.1
    · simp at hm; omega
  · rw [List.pairwise_append]
    refine ⟨hb.filter _, by simp, fun x hx y hy => ?_⟩
    have := (List.mem_filter.1 hx).2
    simp at this hy
    omega
/-- What is known of the places: the first one, the last one, beats between; each before the next one, and no beat between two. -/
structure Zs (K E : Int) (bs : List Int) (z : List Int) (n : Nat) : Prop where
  len : z.length = n + 1
  pos : 1 ≤ n
  first : z[0]? = some K
  last : z[n]? = some E
  mid : ∀ (i : Nat) (x : Int), 0 < i → i < n → z[i]? = some x → x ∈ bs
  up : ∀ (i : Nat) (x y : Int), z[i]? = some x → z[i + 1]? = some y → x < y
  within : ∀ (i : Nat) (x : Int), z[i]? = some x → K ≤ x ∧ x ≤ E ∧ (i < n → x < E)
  none : ∀ (i : Nat) (x y : Int), z[i]? = some x → z[i + 1]? = some y → ∀ b ∈ bs, ¬ (x < b ∧ b < y)
theorem pw_at {l : List Int} (h : l.Pairwise (fun x y => x < y)) {i j : Nat} {x y : Int} (hi : l[i]? = some x) (hj : l[j]? = some y) (hij : i < j) : x < y := by
  obtain ⟨a, rfl⟩ := List.getElem?_eq_some_iff.1 hi
  obtain ⟨b, rfl⟩ := List.getElem?_eq_some_iff.1 hj
  exact (List.pairwise_iff_getElem.1 h) i j a b hij
theorem zs_is {K E : Int} {bs : List Int} (hK : K < E) (hb : bs.Pairwise (fun x y => x < y)) : ∃ n, Zs K E bs (zs K E bs) n := by
  have hs := zs_sorted hK hb
  have hlast : (zs K E bs)[(bs.filter (fun b => decide (K < b ∧ b < E))).length + 1]? = some E := by
    unfold zs
    rw [List.getElem?_cons_succ, List.getElem?_append_right (Nat.le_refl _)]
    simp
  have hfirst : (zs K E bs)[0]? = some K := rfl
  refine ⟨(bs.filter (fun b => decide (K < b ∧ b < E))).length + 1, zs_length K E bs, by omega, hfirst, hlast, ?_, ?_, ?_, ?_⟩
  · intro i x h0 hi hx
    obtain ⟨i, rfl⟩ : ∃ k, i = k + 1 := ⟨i - 1, by omega⟩
    unfold zs at hx
    rw [List.getElem?_cons_succ, List.getElem?_append_left (by omega)] at hx
    exact (List.mem_filter.1 (List.mem_of_getElem? hx)).1
  · intro i x y hx hy
    exact pw_at hs hx hy (by omega)
  · intro i x hx
    have hlt := (List.getElem?_eq_some_iff.1 hx).1
    rw [zs_length] at hlt
    refine ⟨?_, ?_, fun hi => pw_at hs hx hlast hi⟩
    · by_cases h0 : i = 0
      · subst h0; rw [hfirst] at hx; cases hx; exact Int.le_refl _
      · have := pw_at hs hfirst hx (by omega); omega
    · by_cases h0 : i = (bs.filter (fun b => decide (K < b ∧ b < E))).length + 1
      · subst h0; rw [hlast] at hx; cases hx; exact Int.le_refl _
      · have := pw_at hs hx hlast (by omega); omega
  · intro i x y hx hy b hbm hxy
    have hlt := (List.getElem?_eq_some_iff.1 hy).1
    rw [zs_length] at hlt
    have hKx : K ≤ x := by
      by_cases h0 : i = 0
      · subst h0; rw [hfirst] at hx; cases hx; exact Int.le_refl _
      · have := pw_at hs hfirst hx (by omega); omega
    have hyE : y ≤ E := by
      by_cases h0 : i + 1 = (bs.filter (fun b => decide (K < b ∧ b < E))).length + 1
      · rw [h0, hlast] at hy; cases hy; exact Int.le_refl _
      · have := pw_at hs hy hlast (by omega); omega
    have hm : b ∈ bs.filter (fun b => decide (K < b ∧ b < E)) := List.mem_filter.2 ⟨hbm, by simp; omega⟩
    obtain ⟨j, hj⟩ := List.getElem?_of_mem hm
    have hj2 : (zs K E bs)[j + 1]? = some b := by
      unfold zs
      rw [List.getElem?_cons_succ, List.getElem?_append_left ((List.getElem?_eq_some_iff.1 hj).1)]
      exact hj
    rcases Nat.lt_trichotomy (j + 1) i with h1 | h1 | h1
    · have := pw_at hs hj2 hx h1; omega
    · rw [h1, hx] at hj2; cases hj2; omega
    · by_cases h2 : j + 1 = i + 1
      · rw [h2, hy] at hj2; cases hj2; omega
      · have := pw_at hs hy hj2 (by omega); omega

/-- The beats, in parts by S. -/
def zb (S : Int) (G : List Int) : List Int := (List.range G.length).map (fun k => ah G k * S)
theorem zb_mem {S : Int} {G : List Int} {b : Int} : b ∈ zb S G ↔ ∃ k, k < G.length ∧ ah G k * S = b := by
  unfold zb
  rw [List.mem_map]
  exact ⟨fun ⟨k, hk, e⟩ => ⟨k, List.mem_range.1 hk, e⟩, fun ⟨k, hk, e⟩ => ⟨k, List.mem_range.2 hk, e⟩⟩
theorem zb_up {N D : Int} {gs : List Int} (h : IsRight N D gs) {S : Int} (s1 : 1 ≤ S) : (zb S (grp N D gs)).Pairwise (fun x y => x < y) := by
  unfold zb
  rw [List.pairwise_map]
  refine List.Pairwise.imp_of_mem (R := fun a b => a < b) ?_ List.pairwise_lt_range
  intro a b ha hb hab
  have hb' := List.mem_range.1 hb
  have := ah_mono h.pos hab (by omega)
  exact Int.mul_lt_mul_of_pos_right this (by omega)
/-- Pieces of places that are whole numbers of parts. -/
theorem pcR_of {DD : Int} (d1 : 1 ≤ DD) (d2 : DD ≤ 1000) : ∀ l : List Int, (∀ x ∈ l, -400 ≤ x ∧ x ≤ 400) → pcR (l.map (fun x => of x DD)) = (0, (dif l).map (fun x => of x DD))
  | [], _ => rfl
  | [_], _ => rfl
  | a :: b :: l, h => by
    have ha := h a (by simp)
    have hb := h b (by simp)
    have ia : Is (of a DD) a DD := is_of d1 (by omega) (by omega) (by omega)
    have ib : Is (of b DD) b DD := is_of d1 (by omega) (by omega) (by omega)
    obtain ⟨e0, e1⟩ := ib.sb ia (by omega) (by omega) (by omega)
    have e2 : sb (of b DD) (of a DD) = of (b - a) DD := e1.unique (is_of d1 (by omega) (by omega) (by omega))
    have := pcR_of d1 d2 (b :: l) (fun x hx => h x (List.mem_cons_of_mem a hx))
    simp only [List.map_cons] at this ⊢
    rw [pcR_cons, if_neg (by simpa using e0), this, e2, dif]
    rfl
section
variable {N D : Int} {gs : List Int} (h : IsRight N D gs) {S : Int} (s1 : 1 ≤ S) (s12 : S ≤ 12)
include h s1 s12
theorem mid_of {K E : Int} (k0 : -400 ≤ K) (k1 : K ≤ 400) (e0 : -400 ≤ E) (e1 : E ≤ 400) : mid (of K (D * S)) (of E (D * S)) (bt N D gs) = ((zb S (grp N D gs)).filter (fun b => decide (K < b ∧ b < E))).map (fun x => of x (D * S)) := by
  obtain ⟨a, b⟩ := dd_b h s1 s12
  have iK : Is (of K (D * S)) K (D * S) := is_of a (by omega) (by omega) (by omega)
  have iE : Is (of E (D * S)) E (D * S) := is_of a (by omega) (by omega) (by omega)
  have hbt : bt N D gs = (zb S (grp N D gs)).map (fun x => of x (D * S)) := by
    unfold bt bts zb
    rw [List.map_map]
    refine List.map_congr_left fun k hk => ?_
    have hk' := List.mem_range.1 hk
    obtain ⟨n1, n2⟩ := ns_b h s1 s12
    obtain ⟨x0, x1⟩ := h.ah_bounds hk'
    have hx1 : ah (grp N D gs) k * S < N * S := Int.mul_lt_mul_of_pos_right x1 (by omega)
    have hx0 : 0 ≤ ah (grp N D gs) k * S := Int.mul_nonneg x0 (by omega)
    have ib : Is (of (ah (grp N D gs) k * S) (D * S)) (ah (grp N D gs) k * S) (D * S) := is_of a (by omega) (by omega) (by omega)
    exact ((h.beat hk').scale s1).unique ib
  unfold mid
  rw [hbt, List.filter_map]
  congr 1
  refine List.filter_congr fun x hx => ?_
  obtain ⟨k, hk, rfl⟩ := zb_mem.1 hx
  obtain ⟨n1, n2⟩ := ns_b h s1 s12
  obtain ⟨x0, x1⟩ := h.ah_bounds hk
  have hx1 : ah (grp N D gs) k * S < N * S := Int.mul_lt_mul_of_pos_right x1 (by omega)
  have hx0 : 0 ≤ ah (grp N D gs) k * S := Int.mul_nonneg x0 (by omega)
  have ib : Is (of (ah (grp N D gs) k * S) (D * S)) (ah (grp N D gs) k * S) (D * S) := is_of a (by omega) (by omega) (by omega)
  rw [Function.comp_apply, ib.cm iK, ib.cm iE, Bool.eq_iff_iff]
  simp only [Bool.and_eq_true, decide_eq_true_eq]
  rw [sgn_gt, sgn_lt]
  omega
/-- A LENGTH, CUT: from K to E, in parts by S. -/
theorem ct_of {p l : Pr} {K E : Int} (hp : Is p K (D * S)) (hl : Is l (E - K) (D * S)) (k0 : 0 ≤ K) (hKE : K < E) (e1 : E ≤ N * S) : ct N D gs p l = (0, (dif (zs K E (zb S (grp N D gs)))).map (fun x => of x (D * S))) := by
  obtain ⟨a, b⟩ := dd_b h s1 s12
  obtain ⟨n1, n2⟩ := ns_b h s1 s12
  have hr := h.right
  have hin := in_bar h s1 hp k0 (by omega)
  obtain ⟨q0, q1⟩ := hp.ad hl (by omega) (by omega) (by omega)
  have q2 : Is (ad p l) E (D * S) := by have : K + (E - K) = E := by omega
                                        rw [this] at q1; exact q1
  have iE : Is (of E (D * S)) E (D * S) := is_of a (by omega) (by omega) (by omega)
  have iK : Is (of K (D * S)) K (D * S) := is_of a (by omega) (by omega) (by omega)
  have hc : ¬ 0 < cm (ad p l) (of N D) := by rw [q2.cm (bar_is h s1), sgn_gt]; omega
  unfold ct
  rw [hr, hin, hl.ok, decide_eq_true (hl.num_pos.1.2 (by omega))]
  simp only [Bool.and_self, if_true]
  rw [if_pos q0, if_neg hc, pcs_eq h hp.r, q2.unique iE, hp.unique iK, mid_of h s1 s12 (by omega) (by omega) (by omega) (by omega)]
  rw [show of K (D * S) :: (((zb S (grp N D gs)).filter (fun b => decide (K < b ∧ b < E))).map (fun x => of x (D * S)) ++ [of E (D * S)]) = (zs K E (zb S (grp N D gs))).map (fun x => of x (D * S)) by unfold zs; simp]
  refine pcR_of a (by omega) _ fun x hx => ?_
  obtain ⟨n, hz⟩ := zs_is hKE (zb_up h s1)
  obtain ⟨i, hi⟩ := List.getElem?_of_mem hx
  have := hz.within i x hi
  omega
omit s12 in
/-- What is not above 0 is not cut. -/
theorem ct_no {p l : Pr} {K L : Int} (hp : Is p K (D * S)) (hl : Is l L (D * S)) (k0 : 0 ≤ K) (hK : K < N * S) (hL : L ≤ 0) : ct N D gs p l = (2, []) := by
  have hr := h.right
  have hin := in_bar h s1 hp k0 hK
  unfold ct
  rw [hr, hin, hl.ok, decide_eq_false (fun e => by have := hl.num_pos.1.1 e; omega)]
  rfl
end
end Met
end Go.Proofs.Ytlodhfdikglgoaa
