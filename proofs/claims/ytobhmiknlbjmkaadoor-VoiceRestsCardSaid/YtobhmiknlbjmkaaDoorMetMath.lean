/-
  Plain arithmetic of meters: groups, beats, weights, pieces. No program stands in it.
-/
import Derived.Test.YtobhmiknlbjmkaaDoorRatFacts
open Go.Proofs.YtobhmiknlbjmkaaDoor.Rat
namespace Go.Proofs.YtobhmiknlbjmkaaDoor
namespace Met

abbrev Pr := Int × Int
/-- What numbers are together. -/
def tot : List Int → Int
  | [] => 0
  | x :: l => x + tot l
theorem tot_append (l m : List Int) : tot (l ++ m) = tot l + tot m := by
  induction l with
  | nil => simp [tot]
  | cons x l ih => simp only [List.cons_append, tot, ih]; omega
theorem tot_pos {l : List Int} (h : ∀ x ∈ l, 1 ≤ x) : (l.length : Int) ≤ tot l := by
  induction l with
  | nil => simp [tot]
  | cons x l ih =>
    have h1 := h x (List.mem_cons_self ..)
    have h2 := ih (fun y hy => h y (List.mem_cons_of_mem _ hy))
    simp only [tot, List.length_cons]; omega
theorem tot_replicate (k : Nat) (x : Int) : tot (List.replicate k x) = k * x := by
  induction k with
  | zero => simp [tot]
  | succ k ih => simp only [List.replicate_succ, tot, ih]; grind
def ah (l : List Int) (k : Nat) : Int := tot (l.take k)
theorem take_succ_at {α : Type} {l : List α} {k : Nat} {x : α} (h : l[k]? = some x) : l.take (k + 1) = l.take k ++ [x] := by
  rw [List.take_add_one, h]; rfl
theorem ah_zero (l : List Int) : ah l 0 = 0 := rfl
theorem ah_succ {l : List Int} {k : Nat} {x : Int} (h : l[k]? = some x) : ah l (k + 1) = ah l k + x := by
  unfold ah; rw [take_succ_at h, tot_append]; simp [tot]
theorem ah_all (l : List Int) : ah l l.length = tot l := by unfold ah; rw [List.take_length]
theorem ah_split (l : List Int) (k : Nat) : ah l k + tot (l.drop k) = tot l := by unfold ah; rw [← tot_append, List.take_append_drop]

/-- Which meters are right. -/
def okN (n : Int) : Bool := decide (1 ≤ n ∧ n ≤ 32)
def okD (d : Int) : Bool := d == 1 || d == 2 || d == 4 || d == 8 || d == 16 || d == 32 || d == 64
def okG (n : Int) (gs : List Int) : Bool := gs.isEmpty || (gs.all (fun g => decide (1 ≤ g)) && decide (tot gs = n))
def right (n d : Int) (gs : List Int) : Bool := okN n && okD d && okG n gs
theorem okD_iff (d : Int) : okD d = true ↔ d = 1 ∨ d = 2 ∨ d = 4 ∨ d = 8 ∨ d = 16 ∨ d = 32 ∨ d = 64 := by
  unfold okD; simp only [Bool.or_eq_true, beq_iff_eq]; omega
theorem okG_nil (n : Int) : okG n [] = true := rfl
theorem okG_iff {n : Int} {gs : List Int} (h : gs ≠ []) : okG n gs = true ↔ (∀ g ∈ gs, 1 ≤ g) ∧ tot gs = n := by
  unfold okG
  cases gs with
  | nil => exact absurd rfl h
  | cons x l => simp
/-- How filled ends: too early. -/
theorem okG_no {n : Int} {gs : List Int} {k : Nat} {x : Int} (hx : gs[k]? = some x) (h : x < 1 ∨ n - ah gs k < x) : okG n gs = false := by
  have hne : gs ≠ [] := by rintro rfl; simp at hx
  rw [← Bool.not_eq_true, okG_iff hne]
  rintro ⟨h1, h2⟩
  have hm := h1 x (List.mem_of_getElem? hx)
  have hs := ah_split gs (k + 1)
  rw [ah_succ hx] at hs
  have hd := tot_pos (l := gs.drop (k + 1)) (fun y hy => h1 y (List.mem_of_mem_drop hy))
  omega
/-- How filled ends: behind all. -/
theorem okG_end {n : Int} {gs : List Int} (h : ∀ g ∈ gs, 1 ≤ g) : okG n gs = ((gs.length : Int) == 0 || (n - ah gs gs.length) == 0) := by
  rw [ah_all]
  cases gs with
  | nil => rfl
  | cons x l =>
    rw [Bool.eq_iff_iff, okG_iff (by simp)]
    have e : (((x :: l).length : Int) == 0) = false := by simp; omega
    rw [e, Bool.false_or, beq_iff_eq]
    exact ⟨fun ⟨_, a⟩ => by omega, fun a => ⟨h, by omega⟩⟩
/-- How the reference's test ends. -/
theorem okG_all {n : Int} {gs : List Int} (h : ∀ g ∈ gs, 1 ≤ g) : okG n gs = ((gs.length : Int) == 0 || tot gs == n) := by
  cases gs with
  | nil => rfl
  | cons x l =>
    rw [Bool.eq_iff_iff, okG_iff (by simp)]
    have e : (((x :: l).length : Int) == 0) = false := by simp; omega
    rw [e, Bool.false_or, beq_iff_eq]
    exact ⟨fun ⟨_, a⟩ => a, fun a => ⟨h, a⟩⟩
theorem okG_big {n : Int} {gs : List Int} {x : Int} (hx : x ∈ gs) (hn : n ≤ 32) (h : x < 1 ∨ 32 < x) : okG n gs = false := by
  obtain ⟨k, hk⟩ := List.getElem?_of_mem hx
  have hne : gs ≠ [] := by rintro rfl; simp at hk
  rw [← Bool.not_eq_true, okG_iff hne]
  rintro ⟨h1, h2⟩
  have hm := h1 x hx
  have hs := ah_split gs (k + 1)
  rw [ah_succ hk] at hs
  have hd := tot_pos (l := gs.drop (k + 1)) (fun y hy => h1 y (List.mem_of_mem_drop hy))
  have ht := tot_pos (l := gs.take k) (fun y hy => h1 y (List.mem_of_mem_take hy))
  unfold ah at hs
  omega

/-- What a right meter's groups are. -/
def each (n d : Int) : Int := if 8 ≤ d ∧ 3 < n ∧ n % 3 = 0 then 3 else 1
def grp (n d : Int) (gs : List Int) : List Int := if gs.length = 0 then List.replicate (n / each n d).toNat (each n d) else gs
theorem each_cases (n d : Int) : (each n d = 3 ∧ 8 ≤ d ∧ 3 < n ∧ n % 3 = 0) ∨ (each n d = 1 ∧ ¬ (8 ≤ d ∧ 3 < n ∧ n % 3 = 0)) := by
  unfold each; split
  · rename_i h; exact .inl ⟨rfl, h⟩
  · rename_i h; exact .inr ⟨rfl, h⟩
structure IsRight (n d : Int) (gs : List Int) : Prop where
  n1 : 1 ≤ n
  n32 : n ≤ 32
  d1 : 1 ≤ d
  d64 : d ≤ 64
  dd : okD d = true
  pos : ∀ g ∈ grp n d gs, 1 ≤ g
  all : tot (grp n d gs) = n
  gok : okG n gs = true
theorem isRight {n d : Int} {gs : List Int} (h : right n d gs = true) : IsRight n d gs := by
  unfold right okN at h
  simp only [Bool.and_eq_true, decide_eq_true_eq] at h
  obtain ⟨⟨⟨h1, h2⟩, h3⟩, h4⟩ := h
  have hd := (okD_iff d).1 h3
  have he := each_cases n d
  have key : (∀ g ∈ grp n d gs, 1 ≤ g) ∧ tot (grp n d gs) = n := by
    unfold grp
    split
    · refine ⟨fun g hg => ?_, ?_⟩
      · have := List.eq_of_mem_replicate hg; omega
      · rw [tot_replicate]
        rcases he with ⟨e, _⟩ | ⟨e, _⟩
        · rw [e]; omega
        · rw [e]; omega
    · rename_i hne
      exact (okG_iff (by rintro rfl; simp at hne)).1 h4
  exact ⟨h1, h2, by omega, by omega, h3, key.1, key.2, h4⟩
theorem IsRight.right {n d : Int} {gs : List Int} (h : IsRight n d gs) : Met.right n d gs = true := by
  unfold Met.right okN
  rw [h.dd, h.gok]
  have := h.n1; have := h.n32
  simp; omega
theorem IsRight.len {n d : Int} {gs : List Int} (h : IsRight n d gs) : 1 ≤ (grp n d gs).length ∧ (grp n d gs).length ≤ 32 := by
  have := tot_pos h.pos
  rw [h.all] at this
  have := h.n32; have := h.n1
  refine ⟨?_, by omega⟩
  cases hl : grp n d gs with
  | nil => have := h.all; rw [hl] at this; simp [tot] at this; omega
  | cons x l => simp
theorem ah_mono {l : List Int} (h : ∀ x ∈ l, 1 ≤ x) {i j : Nat} (hij : i < j) (hj : j ≤ l.length) : ah l i < ah l j := by
  induction j with
  | zero => omega
  | succ j ih =>
    have hx : l[j]? = some l[j] := List.getElem?_eq_getElem (by omega)
    rw [ah_succ hx]
    have := h _ (List.mem_of_getElem? hx)
    by_cases e : i = j
    · subst e; omega
    · have := ih (by omega) (by omega); omega
theorem IsRight.ah_bounds {n d : Int} {gs : List Int} (h : IsRight n d gs) {k : Nat} (hk : k < (grp n d gs).length) : 0 ≤ ah (grp n d gs) k ∧ ah (grp n d gs) k < n := by
  have h1 := ah_mono h.pos hk (Nat.le_refl _)
  rw [ah_all, h.all] at h1
  refine ⟨?_, h1⟩
  by_cases e : k = 0
  · subst e; rw [ah_zero]; omega
  · have := ah_mono h.pos (show 0 < k by omega) (by omega); rw [ah_zero] at this; omega
theorem IsRight.g_bounds {n d : Int} {gs : List Int} (h : IsRight n d gs) {k : Nat} {x : Int} (hk : (grp n d gs)[k]? = some x) : 1 ≤ x ∧ ah (grp n d gs) k + x ≤ n := by
  have h1 := h.pos _ (List.mem_of_getElem? hk)
  have h2 := ah_split (grp n d gs) (k + 1)
  rw [ah_succ hk, h.all] at h2
  have h3 := tot_pos (l := (grp n d gs).drop (k + 1)) (fun y hy => h.pos y (List.mem_of_mem_drop hy))
  exact ⟨h1, by omega⟩

/-! ### Ratios as pairs -/
def of (a d : Int) : Pr := (ofN a d, ofD a d)
def ok (p : Pr) : Bool := Rat.right p.1 p.2
def cm (p q : Pr) : Int := cmpV (Rat.right p.1 p.2 && Rat.right q.1 q.2) (p.1 * q.2 - q.1 * p.2)
def sb (p q : Pr) : Pr := (binN (Rat.right p.1 p.2 && Rat.right q.1 q.2) (p.1 * q.2 - q.1 * p.2) (p.2 * q.2), binD (Rat.right p.1 p.2 && Rat.right q.1 q.2) (p.1 * q.2 - q.1 * p.2) (p.2 * q.2))
def sbE (p q : Pr) : Int := binE (Rat.right p.1 p.2 && Rat.right q.1 q.2) (p.1 * q.2 - q.1 * p.2) (p.2 * q.2)
def ad (p q : Pr) : Pr := (binN (Rat.right p.1 p.2 && Rat.right q.1 q.2) (p.1 * q.2 + q.1 * p.2) (p.2 * q.2), binD (Rat.right p.1 p.2 && Rat.right q.1 q.2) (p.1 * q.2 + q.1 * p.2) (p.2 * q.2))
def adE (p q : Pr) : Int := binE (Rat.right p.1 p.2 && Rat.right q.1 q.2) (p.1 * q.2 + q.1 * p.2) (p.2 * q.2)
def ml (p q : Pr) : Pr := (binN (Rat.right p.1 p.2 && Rat.right q.1 q.2) (p.1 * q.1) (p.2 * q.2), binD (Rat.right p.1 p.2 && Rat.right q.1 q.2) (p.1 * q.1) (p.2 * q.2))
def mlE (p q : Pr) : Int := binE (Rat.right p.1 p.2 && Rat.right q.1 q.2) (p.1 * q.1) (p.2 * q.2)

theorem of_small {n d : Int} (h1 : 1 ≤ d) (h2 : d ≤ 1000000000) (h3 : -1000000000 ≤ n) (h4 : n ≤ 1000000000) : Rat.ofE n d = 0 := by
  have hd : d ≠ 0 := by omega
  have hM := Rat.M_eq
  have t : Rat.top n d ≤ 1000000000 := by
    unfold Rat.top
    have := Nat.div_le_self n.natAbs (Nat.gcd n.natAbs d.natAbs)
    omega
  have b : Rat.bot n d ≤ 1000000000 := by
    unfold Rat.bot
    have := Nat.div_le_self d.natAbs (Nat.gcd n.natAbs d.natAbs)
    omega
  have hb : Rat.big n d = false := by unfold Rat.big; simp; omega
  unfold Rat.ofE; rw [if_neg hd, hb]; rfl

/-- The right ratio p is a by D. -/
structure Is (p : Pr) (a D : Int) : Prop where
  r : Rat.IsRight p.1 p.2
  D1 : 1 ≤ D
  e : p.1 * D = a * p.2
theorem is_of {a D : Int} (h1 : 1 ≤ D) (h2 : D ≤ 1000000000) (h3 : -1000000000 ≤ a) (h4 : a ≤ 1000000000) : Is (of a D) a D :=
  let h := Rat.of_sound (of_small h1 h2 h3 h4)
  ⟨h.1, h1, h.2.1⟩
theorem Is.scale {p : Pr} {a D : Int} (h : Is p a D) {k : Int} (hk : 1 ≤ k) : Is p (a * k) (D * k) :=
  ⟨h.r, by have := h.D1; have : 1 * 1 ≤ D * k := Int.mul_le_mul this hk (by omega) (by omega); omega, by have := h.e; grind⟩
theorem Is.unique {p q : Pr} {a D : Int} (h : Is p a D) (k : Is q a D) : p = q := by
  have hD := h.D1
  have e : p.1 * q.2 = q.1 * p.2 := by
    have : p.1 * q.2 * D = q.1 * p.2 * D := by have := h.e; have := k.e; grind
    exact Int.eq_of_mul_eq_mul_right (by omega) this
  obtain ⟨x, y⟩ := Rat.right_unique h.r k.r e
  exact Prod.ext x y
theorem Is.inj {p : Pr} {a b D : Int} (h : Is p a D) (k : Is p b D) : a = b := by
  have := h.e; have := k.e; have hr := h.r.d1
  have : a * p.2 = b * p.2 := by omega
  exact Int.eq_of_mul_eq_mul_right (by omega) this
theorem Is.eq_iff {p q : Pr} {a b D : Int} (h : Is p a D) (k : Is q b D) : p = q ↔ a = b :=
  ⟨fun e => by subst e; exact h.inj k, fun e => by subst e; exact h.unique k⟩
theorem Is.ok {p : Pr} {a D : Int} (h : Is p a D) : Met.ok p = true := right_true h.r
theorem Is.num_pos {p : Pr} {a D : Int} (h : Is p a D) : (0 < p.1 ↔ 0 < a) ∧ (p.1 = 0 ↔ a = 0) ∧ (0 ≤ p.1 ↔ 0 ≤ a) := by
  have h1 := h.e; have h2 := h.D1; have h3 := h.r.d1
  have s1 := Int.mul_sign_self (p.1)
  rcases Int.lt_trichotomy p.1 0 with hp | hp | hp
  · have : p.1 * D < 0 := Int.mul_neg_of_neg_of_pos hp (by omega)
    have ha : a < 0 := by
      rcases Int.lt_or_le a 0 with x | x
      · exact x
      · have := Int.mul_nonneg x (show 0 ≤ p.2 by omega); omega
    omega
  · rw [hp] at h1 ⊢
    have ha : a = 0 := by
      have : a * p.2 = 0 := by omega
      rcases Int.mul_eq_zero.1 this with x | x
      · exact x
      · omega
    omega
  · have : 0 < p.1 * D := Int.mul_pos hp (by omega)
    have ha : 0 < a := by
      rcases Int.lt_or_le 0 a with x | x
      · exact x
      · have := Int.mul_nonneg (show 0 ≤ -a by omega) (show 0 ≤ p.2 by omega)
        have e : -a * p.2 = -(a * p.2) := by grind
        omega
    omega
theorem Is.cm {p q : Pr} {a b D : Int} (h : Is p a D) (k : Is q b D) : Met.cm p q = Rat.sgn (a - b) := by
  unfold Met.cm
  rw [cmp_yes h.r k.r]
  have hp := h.r.d1; have hq := k.r.d1
  refine sgn_of_mul (k := D) (m := p.2 * q.2) (by have := h.D1; omega) (Int.mul_pos (by omega) (by omega)) ?_
  have := h.e; have := k.e; grind
theorem Is.sb {p q : Pr} {a b D : Int} (h : Is p a D) (k : Is q b D) (hD : D ≤ 1000000000) (h3 : -1000000000 ≤ a - b) (h4 : a - b ≤ 1000000000) : Met.sbE p q = 0 ∧ Is (Met.sb p q) (a - b) D := by
  have hi := is_of h.D1 hD h3 h4
  obtain ⟨x, y, z⟩ := bin_eq (n := p.1 * q.2 - q.1 * p.2) (m := p.2 * q.2) h.r k.r (mul_ne h.r.ne k.r.ne) hi.r (by
    have hD := h.D1
    have : (of (a - b) D).1 * (p.2 * q.2) * D = (p.1 * q.2 - q.1 * p.2) * (of (a - b) D).2 * D := by
      have := h.e; have := k.e; have := hi.e; grind
    exact Int.eq_of_mul_eq_mul_right (by omega) this)
  refine ⟨z, ?_⟩
  have e : Met.sb p q = of (a - b) D := Prod.ext x y
  rw [e]; exact hi
theorem Is.ad {p q : Pr} {a b D : Int} (h : Is p a D) (k : Is q b D) (hD : D ≤ 1000000000) (h3 : -1000000000 ≤ a + b) (h4 : a + b ≤ 1000000000) : Met.adE p q = 0 ∧ Is (Met.ad p q) (a + b) D := by
  have hi := is_of h.D1 hD h3 h4
  obtain ⟨x, y, z⟩ := bin_eq (n := p.1 * q.2 + q.1 * p.2) (m := p.2 * q.2) h.r k.r (mul_ne h.r.ne k.r.ne) hi.r (by
    have hD := h.D1
    have : (of (a + b) D).1 * (p.2 * q.2) * D = (p.1 * q.2 + q.1 * p.2) * (of (a + b) D).2 * D := by
      have := h.e; have := k.e; have := hi.e; grind
    exact Int.eq_of_mul_eq_mul_right (by omega) this)
  refine ⟨z, ?_⟩
  have e : Met.ad p q = of (a + b) D := Prod.ext x y
  rw [e]; exact hi
/-- Answers are right ratios, or 0 by 0 with an error. -/
theorem sb_small (p q : Pr) : -1000000000 ≤ (sb p q).1 ∧ (sb p q).1 ≤ 1000000000 ∧ -1000000000 ≤ (sb p q).2 ∧ (sb p q).2 ≤ 1000000000 := by
  unfold sb binN binD
  cases Rat.right p.1 p.2 && Rat.right q.1 q.2
  · simp
  · simp only [if_true]
    by_cases h : Rat.ofE (p.1 * q.2 - q.1 * p.2) (p.2 * q.2) = 0
    · have := right_bounds (Rat.of_sound h).1; omega
    · obtain ⟨x, y⟩ := res_zero h; rw [x, y]; omega
theorem of_one {n : Int} (h1 : -1000000000 ≤ n) (h2 : n ≤ 1000000000) : of n 1 = (n, 1) := by
  have hi := is_of (a := n) (D := 1) (by omega) (by omega) h1 h2
  exact hi.unique ⟨⟨by omega, by have := Rat.M_eq; omega, by have := Rat.M_eq; omega, by have := Rat.M_eq; omega, by simp⟩, by omega, by simp⟩

/-! ### Beats -/
def bts (d : Int) (l : List Int) : List Pr := (List.range l.length).map (fun k => of (ah l k) d)
def bt (n d : Int) (gs : List Int) : List Pr := bts d (grp n d gs)
theorem bts_length (d : Int) (l : List Int) : (bts d l).length = l.length := by unfold bts; simp
theorem bts_at {d : Int} {l : List Int} {k : Nat} (h : k < l.length) : (bts d l)[k]? = some (of (ah l k) d) := by
  unfold bts; rw [List.getElem?_map, List.getElem?_range h]; rfl
theorem bt_mem {n d : Int} {gs : List Int} {b : Pr} (h : b ∈ bt n d gs) : ∃ k, k < (grp n d gs).length ∧ b = of (ah (grp n d gs) k) d := by
  unfold bt bts at h
  obtain ⟨k, hk, rfl⟩ := List.mem_map.1 h
  exact ⟨k, List.mem_range.1 hk, rfl⟩
theorem IsRight.beat {n d : Int} {gs : List Int} (h : IsRight n d gs) {k : Nat} (hk : k < (grp n d gs).length) : Is (of (ah (grp n d gs) k) d) (ah (grp n d gs) k) d := by
  have := h.ah_bounds hk; have := h.n32; have := h.d1; have := h.d64
  exact is_of (by omega) (by omega) (by omega) (by omega)
theorem IsRight.bar {n d : Int} {gs : List Int} (h : IsRight n d gs) : Is (of n d) n d := by
  have := h.n1; have := h.n32; have := h.d1; have := h.d64
  exact is_of (by omega) (by omega) (by omega) (by omega)

/-! ### Weights -/
def inB (n d : Int) (at_ : Pr) : Bool := ok at_ && decide (0 ≤ at_.1) && decide (cm at_ (of n d) < 0)
def wtE (n d : Int) (gs : List Int) (p : Pr) : Int := if right n d gs then (if inB n d p then 0 else 2) else 50
def wtV (n d : Int) (gs : List Int) (p : Pr) : Int :=
  if right n d gs && inB n d p then (if p.1 = 0 then 3 else if p ∈ bt n d gs then 2 else if d % p.2 = 0 then 1 else 0) else 0

/-! ### Pieces: the program's way -/
abbrev St := Int × Pr × List Pr
def stp (en : Pr) (s : St) (b : Pr) : St :=
  if s.1 ≠ 0 then s else if cm b s.2.1 ≤ 0 ∨ 0 ≤ cm b en then s else (sbE b s.2.1, b, s.2.2 ++ [sb b s.2.1])
def run (en at_ : Pr) (bs : List Pr) : St := bs.foldl (stp en) (0, at_, [])
theorem run_nil (en at_ : Pr) : run en at_ [] = (0, at_, []) := rfl
theorem run_snoc (en at_ : Pr) (bs : List Pr) (b : Pr) : run en at_ (bs ++ [b]) = stp en (run en at_ bs) b := by unfold run; rw [List.foldl_append]; rfl
theorem stp_err (en : Pr) (s : St) (h : s.1 ≠ 0) (bs : List Pr) : bs.foldl (stp en) s = s := by
  induction bs with
  | nil => rfl
  | cons b bs ih => rw [List.foldl_cons, show stp en s b = s by unfold stp; rw [if_pos h]]; exact ih
theorem run_err {en at_ : Pr} {pre bs : List Pr} (hp : pre <+: bs) (h : (run en at_ pre).1 ≠ 0) : run en at_ bs = run en at_ pre := by
  obtain ⟨t, rfl⟩ := hp
  unfold run at *
  rw [List.foldl_append, stp_err _ _ h]
def fin (en : Pr) (s : St) : Int × List Pr :=
  if s.1 ≠ 0 then (s.1, []) else if sbE en s.2.1 ≠ 0 then (sbE en s.2.1, []) else (0, s.2.2 ++ [sb en s.2.1])
def pcs (n d : Int) (gs : List Int) (at_ en : Pr) : Int × List Pr := fin en (run en at_ (bt n d gs))
def ct (n d : Int) (gs : List Int) (at_ ln : Pr) : Int × List Pr :=
  if right n d gs then
    if inB n d at_ && ok ln && decide (0 < ln.1) then
      if adE at_ ln = 0 then
        if 0 < cm (ad at_ ln) (of n d) then (2, []) else pcs n d gs at_ (ad at_ ln)
      else (adE at_ ln, [])
    else (2, [])
  else (50, [])

/-! ### Pieces: the reference's way -/
def mid (at_ en : Pr) (bs : List Pr) : List Pr := bs.filter (fun b => decide (0 < cm b at_) && decide (cm b en < 0))
/-- Pieces of successive places; the first error. -/
def pcR : List Pr → Int × List Pr
  | [] => (0, [])
  | [_] => (0, [])
  | f :: t :: ts => if sbE t f ≠ 0 then (sbE t f, []) else ((pcR (t :: ts)).1, if (pcR (t :: ts)).1 ≠ 0 then [] else sb t f :: (pcR (t :: ts)).2)
end Met
end Go.Proofs.YtobhmiknlbjmkaaDoor
