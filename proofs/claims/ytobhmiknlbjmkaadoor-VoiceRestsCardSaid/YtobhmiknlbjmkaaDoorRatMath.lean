/-
  Plain arithmetic of right ratios: what Of, Right and the four deeds come to as functions on whole numbers, and the laws that the statements of layer 1 want. No program stands in it.
-/
namespace Go.Proofs.YtobhmiknlbjmkaaDoor
namespace Rat

/-- The greatest term. -/
def M : Int := 1000000000
theorem M_eq : M = 1000000000 := rfl
/-- A whole number of 64 bits. -/
def I64 (n : Int) : Prop := -9223372036854775808 ≤ n ∧ n ≤ 9223372036854775807

/-- The common divisor, and the two terms without it and without their signs. -/
def g (n d : Int) : Int := (Nat.gcd n.natAbs d.natAbs : Nat)
def top (n d : Int) : Int := ((n.natAbs / Nat.gcd n.natAbs d.natAbs : Nat) : Int)
def bot (n d : Int) : Int := ((d.natAbs / Nat.gcd n.natAbs d.natAbs : Nat) : Int)
/-- Is it too great? -/
def big (n d : Int) : Bool := decide (M < top n d) || decide (M < bot n d)
/-- Are the signs unlike? -/
def neg (n d : Int) : Bool := decide (n < 0) != decide (d < 0)
/-- Of: the error, the upper term, the lower term. -/
def ofE (n d : Int) : Int := if d = 0 then 11 else if big n d then 10 else 0
def ofN (n d : Int) : Int := if d = 0 then 0 else if big n d then 0 else if neg n d then -top n d else top n d
def ofD (n d : Int) : Int := if d = 0 then 0 else if big n d then 0 else bot n d
/-- Right. -/
def right (n d : Int) : Bool := decide (1 ≤ d ∧ d ≤ M ∧ -M ≤ n ∧ n ≤ M ∧ Nat.gcd n.natAbs d.natAbs = 1)
/-- Compare of right ratios. -/
def sgn (x : Int) : Int := if x < 0 then -1 else if x = 0 then 0 else 1

structure IsRight (n d : Int) : Prop where
  d1 : 1 ≤ d
  dM : d ≤ M
  n0 : -M ≤ n
  nM : n ≤ M
  co : Nat.gcd n.natAbs d.natAbs = 1

theorem right_iff (n d : Int) : right n d = true ↔ IsRight n d := by
  unfold right
  rw [decide_eq_true_iff]
  exact ⟨fun ⟨a, b, c, e, f⟩ => ⟨a, b, c, e, f⟩, fun ⟨a, b, c, e, f⟩ => ⟨a, b, c, e, f⟩⟩

theorem natAbs_div_mul {a b : Int} (h : b.natAbs ∣ a.natAbs) : (a.natAbs / b.natAbs) * b.natAbs = a.natAbs := Nat.div_mul_cancel h

/-- What Of answers, where it answers: a right ratio that is the same. -/
theorem of_sound {n d : Int} (h : ofE n d = 0) : IsRight (ofN n d) (ofD n d) ∧ ofN n d * d = n * ofD n d ∧ d ≠ 0 := by
  have hd : d ≠ 0 := by
    intro h0; unfold ofE at h; rw [if_pos h0] at h; omega
  have hb : big n d = false := by
    unfold ofE at h; rw [if_neg hd] at h
    cases hb : big n d with
    | false => rfl
    | true => rw [hb] at h; simp at h
  have hgp : 0 < Nat.gcd n.natAbs d.natAbs := Nat.gcd_pos_of_pos_right _ (by omega)
  have h1 : Nat.gcd n.natAbs d.natAbs ∣ n.natAbs := Nat.gcd_dvd_left _ _
  have h2 : Nat.gcd n.natAbs d.natAbs ∣ d.natAbs := Nat.gcd_dvd_right _ _
  have hco : Nat.gcd (n.natAbs / Nat.gcd n.natAbs d.natAbs) (d.natAbs / Nat.gcd n.natAbs d.natAbs) = 1 := by
    rw [Nat.gcd_div h1 h2, Nat.div_self hgp]
  have e1 : n.natAbs / Nat.gcd n.natAbs d.natAbs * Nat.gcd n.natAbs d.natAbs = n.natAbs := Nat.div_mul_cancel h1
  have e2 : d.natAbs / Nat.gcd n.natAbs d.natAbs * Nat.gcd n.natAbs d.natAbs = d.natAbs := Nat.div_mul_cancel h2
  have hbb : top n d ≤ M ∧ bot n d ≤ M := by
    unfold big at hb; simp at hb; exact ⟨by omega, by omega⟩
  have tdef : top n d = ((n.natAbs / Nat.gcd n.natAbs d.natAbs : Nat) : Int) := rfl
  have bdef : bot n d = ((d.natAbs / Nat.gcd n.natAbs d.natAbs : Nat) : Int) := rfl
  have ndef : ofN n d = if neg n d then -top n d else top n d := by unfold ofN; rw [if_neg hd, hb]; rfl
  have ddef : ofD n d = bot n d := by unfold ofD; rw [if_neg hd, hb]; rfl
  have hMM := M_eq
  generalize hG : Nat.gcd n.natAbs d.natAbs = G at *
  generalize hA : n.natAbs / G = A at *
  generalize hB : d.natAbs / G = B at *
  have hB1 : 1 ≤ B := by
    rcases Nat.eq_zero_or_pos B with h0 | h0
    · rw [h0] at e2; omega
    · exact h0
  have hsign : (neg n d = true → ((n < 0 ∧ 0 < d) ∨ (0 ≤ n ∧ d < 0))) ∧ (neg n d = false → ((n < 0 ∧ d < 0) ∨ (0 ≤ n ∧ 0 < d))) := by
    unfold neg
    by_cases hn : n < 0 <;> by_cases hdd : d < 0 <;> simp [hn, hdd] <;> omega
  have en : (n.natAbs : Int) = A * G := by rw [← e1]; simp
  have ed : (d.natAbs : Int) = B * G := by rw [← e2]; simp
  refine ⟨⟨by omega, by omega, ?_, ?_, ?_⟩, ?_, hd⟩
  · rw [ndef]; split <;> omega
  · rw [ndef]; split <;> omega
  · rw [ndef, ddef, tdef, bdef]
    split
    · simpa using hco
    · simpa using hco
  · rw [ndef, ddef, tdef, bdef]
    cases hneg : neg n d with
    | true =>
      simp only [if_true]
      rcases hsign.1 hneg with ⟨a, b⟩ | ⟨a, b⟩
      · have x1 : n = -((A : Int) * G) := by omega
        have x2 : d = (B : Int) * G := by omega
        rw [x1, x2]; grind
      · have x1 : n = ((A : Int) * G) := by omega
        have x2 : d = -((B : Int) * G) := by omega
        rw [x1, x2]; grind
    | false =>
      simp only [Bool.false_eq_true, if_false]
      rcases hsign.2 hneg with ⟨a, b⟩ | ⟨a, b⟩
      · have x1 : n = -((A : Int) * G) := by omega
        have x2 : d = -((B : Int) * G) := by omega
        rw [x1, x2]; grind
      · have x1 : n = ((A : Int) * G) := by omega
        have x2 : d = ((B : Int) * G) := by omega
        rw [x1, x2]; grind

/-- Two right ratios that are the same have the same terms. -/
theorem right_unique {a b c d : Int} (h : IsRight a b) (k : IsRight c d) (e : a * d = c * b) : a = c ∧ b = d := by
  have hb := h.d1
  have hd := k.d1
  have eabs : a.natAbs * d.natAbs = c.natAbs * b.natAbs := by rw [← Int.natAbs_mul, ← Int.natAbs_mul, e]
  have h1 : b.natAbs ∣ d.natAbs := by
    have : b.natAbs ∣ a.natAbs * d.natAbs := ⟨c.natAbs, by rw [eabs, Nat.mul_comm]⟩
    exact Nat.Coprime.dvd_of_dvd_mul_left (Nat.Coprime.symm (by unfold Nat.Coprime; exact h.co)) this
  have h2 : d.natAbs ∣ b.natAbs := by
    have : d.natAbs ∣ c.natAbs * b.natAbs := ⟨a.natAbs, by rw [← eabs, Nat.mul_comm]⟩
    exact Nat.Coprime.dvd_of_dvd_mul_left (Nat.Coprime.symm (by unfold Nat.Coprime; exact k.co)) this
  have hbd : b = d := by
    have := Nat.dvd_antisymm h1 h2
    omega
  subst hbd
  exact ⟨Int.eq_of_mul_eq_mul_right (by omega) e, rfl⟩

/-- Where there is a right ratio that is the same, Of answers it. -/
theorem of_complete {n d p q : Int} (hd : d ≠ 0) (h : IsRight p q) (e : p * d = n * q) : ofE n d = 0 ∧ ofN n d = p ∧ ofD n d = q := by
  have hq := h.d1
  have hMM := M_eq
  have hE : ofE n d = 0 := by
    unfold ofE
    rw [if_neg hd]
    have hgp : 0 < Nat.gcd n.natAbs d.natAbs := Nat.gcd_pos_of_pos_right _ (by omega)
    have h1 : Nat.gcd n.natAbs d.natAbs ∣ n.natAbs := Nat.gcd_dvd_left _ _
    have h2 : Nat.gcd n.natAbs d.natAbs ∣ d.natAbs := Nat.gcd_dvd_right _ _
    have hco : Nat.gcd (n.natAbs / Nat.gcd n.natAbs d.natAbs) (d.natAbs / Nat.gcd n.natAbs d.natAbs) = 1 := by
      rw [Nat.gcd_div h1 h2, Nat.div_self hgp]
    have e1 : n.natAbs / Nat.gcd n.natAbs d.natAbs * Nat.gcd n.natAbs d.natAbs = n.natAbs := Nat.div_mul_cancel h1
    have e2 : d.natAbs / Nat.gcd n.natAbs d.natAbs * Nat.gcd n.natAbs d.natAbs = d.natAbs := Nat.div_mul_cancel h2
    have eabs : p.natAbs * d.natAbs = n.natAbs * q.natAbs := by rw [← Int.natAbs_mul, ← Int.natAbs_mul, e]
    have tdef : top n d = ((n.natAbs / Nat.gcd n.natAbs d.natAbs : Nat) : Int) := rfl
    have bdef : bot n d = ((d.natAbs / Nat.gcd n.natAbs d.natAbs : Nat) : Int) := rfl
    have hb : big n d = false := by
      unfold big
      rw [tdef, bdef]
      generalize hG : Nat.gcd n.natAbs d.natAbs = G at *
      generalize hA : n.natAbs / G = A at *
      generalize hB : d.natAbs / G = B at *
      have eq : p.natAbs * B = A * q.natAbs := by
        have : p.natAbs * B * G = A * q.natAbs * G := by
          rw [Nat.mul_assoc, e2, eabs, ← e1]; grind
        exact Nat.eq_of_mul_eq_mul_right hgp this
      have d1 : B ∣ q.natAbs := by
        have : B ∣ A * q.natAbs := ⟨p.natAbs, by rw [← eq, Nat.mul_comm]⟩
        exact Nat.Coprime.dvd_of_dvd_mul_left (Nat.Coprime.symm (by unfold Nat.Coprime; exact hco)) this
      have d2 : q.natAbs ∣ B := by
        have : q.natAbs ∣ p.natAbs * B := ⟨A, by rw [eq, Nat.mul_comm]⟩
        exact Nat.Coprime.dvd_of_dvd_mul_left (Nat.Coprime.symm (by unfold Nat.Coprime; exact h.co)) this
      have hBq : B = q.natAbs := Nat.dvd_antisymm d1 d2
      have hAp : A = p.natAbs := by
        rw [hBq] at eq
        exact (Nat.eq_of_mul_eq_mul_right (by omega) eq).symm
      have := h.dM; have := h.n0; have := h.nM
      rw [hBq, hAp]; simp; omega
    rw [hb]; rfl
  obtain ⟨hr, he, _⟩ := of_sound hE
  have hx : ofN n d * q = p * ofD n d := by
    have : ofN n d * q * d = p * ofD n d * d := by grind
    exact Int.eq_of_mul_eq_mul_right hd this
  obtain ⟨x, y⟩ := right_unique hr h hx
  exact ⟨hE, x, y⟩

end Rat
end Go.Proofs.YtobhmiknlbjmkaaDoor
