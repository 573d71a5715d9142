/-
  Keys in plain numbers: the line of fifths, signatures, scales, moves, spelling, texts. No program.
-/
import Derived.Test.YtahcbgngdpjhkaaDoorPitMath
namespace Go.Proofs.YtahcbgngdpjhkaaDoor.Key
open Go.Proofs.YtahcbgngdpjhkaaDoor

/-- The step and the alteration of a place of the line of fifths. -/
def st (p : Int) : Int := (4 * p) % 7
def al (p : Int) : Int := (p + 1) / 7
def okF (f : Int) : Bool := decide (-7 ≤ f ∧ f ≤ 7)
/-- The tonic's place. -/
def tp (f : Int) (m : Bool) : Int := if m then f + 3 else f
/-- The first n values of f. -/
def upto {α : Type} (f : Nat → α) (n : Nat) : List α := (List.range n).map f
theorem upto_succ {α : Type} (f : Nat → α) (k : Nat) : upto f (k + 1) = upto f k ++ [f k] := by simp [upto, List.range_succ]
theorem upto_length {α : Type} (f : Nat → α) (k : Nat) : (upto f k).length = k := by simp [upto]
theorem upto_at {α : Type} (f : Nat → α) {n k : Nat} (h : k < n) : (upto f n)[k]? = some (f k) := by simp [upto, h]
/-- The places from a on, n of them. -/
def places (a : Int) (n : Nat) : List Int := upto (fun k => a + (k : Int)) n
/-- What the signature of f fifths gives to step s. -/
def sgL (a : Int) (n : Nat) (s : Int) : Option Int := (places a n).find? (fun p => st p == s)
def sg (f s : Int) : Int := ((sgL (f - 1) 7 s).map al).getD 0
/-- The i-th pitch of a scale: its step, alteration, octave. -/
def scS (f : Int) (m : Bool) (i : Int) : Int := (st (tp f m) + i) % 7
def scA (f : Int) (m : Bool) (i : Int) : Int := sg f (scS f m i)
def scO (f : Int) (m : Bool) (i : Int) : Int := 4 + (st (tp f m) + i) / 7
/-- The place that spells a number. -/
def nm (p : Int) : Int := if Pit.right (st p) (al p) 4 then Pit.num (st p) (al p) 4 else 0
def hit (n p : Int) : Bool := (n - nm p).tmod 12 == 0
def clsL (a : Int) (k : Nat) (n : Int) : Option Int := (places a k).find? (hit n)
def cls (f n : Int) : Option Int := clsL (f - 5) 12 n
def spOf (n p : Int) : Option (Int × Int × Int) :=
  if Pit.right (st p) (al p) (4 + (n - nm p).tdiv 12) then some (st p, al p, 4 + (n - nm p).tdiv 12) else none
def spell (f n : Int) : Option (Int × Int × Int) := (cls f n).bind (spOf n)
/-- Texts. -/
def leB (s : Int) : List UInt8 := [[67], [68], [69], [70], [71], [65], [66]].getD s.toNat []
def shB (a : Int) : List UInt8 := List.replicate a.toNat 35
def flB (a : Int) : List UInt8 := List.replicate (-a).toNat 98
def moB (m : Bool) : List UInt8 := if m then [32, 109, 105, 110, 111, 114] else [32, 109, 97, 106, 111, 114]
def tx (f : Int) (m : Bool) : List UInt8 := leB (st (tp f m)) ++ shB (al (tp f m)) ++ flB (al (tp f m)) ++ moB m
/-- The right keys, in their order. -/
def keyAt (k : Nat) : Int × Bool := (((k / 2 : Nat) : Int) - 7, k % 2 == 1)
def rdK (l : List UInt8) : Option (Int × Bool) := (upto keyAt 30).find? (fun k => tx k.1 k.2 == l)

/-- Moves: the error, the fifths, the mode. -/
def mvE (f S H : Int) : Int := if okF f then (if decide (-70 ≤ S ∧ S ≤ 70 ∧ -120 ≤ H ∧ H ≤ 120) then (if okF (f + (7 * H - 12 * S)) then 0 else 30) else 2) else 30
def mvF (f S H : Int) : Int := if mvE f S H = 0 then f + (7 * H - 12 * S) else 0
def mvM (f : Int) (m : Bool) (S H : Int) : Bool := if mvE f S H = 0 then m else false
/-- Errors of what hangs on a right key alone; what is answered beside one. -/
def eK (f : Int) : Int := if okF f then 0 else 30
def eKS (f s : Int) : Int := if okF f then (if decide (0 ≤ s ∧ s ≤ 6) then 0 else 2) else 30
def alt (f s : Int) : Int := if eKS f s = 0 then sg f s else 0
def txE (f : Int) (m : Bool) : List UInt8 := if okF f then tx f m else []
def eSp (f n : Int) : Int := if okF f then (if decide (0 ≤ n ∧ n ≤ 127) then (match spell f n with | some _ => 0 | none => 20) else 2) else 30
def spE (f n : Int) : Int × Int × Int := if eSp f n = 0 then (spell f n).getD (0, 0, 0) else (0, 0, 0)

theorem okF_iff (f : Int) : okF f = true ↔ -7 ≤ f ∧ f ≤ 7 := by unfold okF; rw [decide_eq_true_iff]
theorem okF_true {f : Int} (h0 : -7 ≤ f) (h7 : f ≤ 7) : okF f = true := (okF_iff f).2 ⟨h0, h7⟩
theorem okF_false {f : Int} (h : ¬ (-7 ≤ f ∧ f ≤ 7)) : okF f = false := by
  cases hr : okF f
  · rfl
  · exact absurd ((okF_iff f).1 hr) h
theorem st_bounds (p : Int) : 0 ≤ st p ∧ st p ≤ 6 := by unfold st; omega
theorem tp_bounds {f : Int} {m : Bool} (h0 : -7 ≤ f) (h7 : f ≤ 7) : -7 ≤ tp f m ∧ tp f m ≤ 10 := by unfold tp; cases m <;> simp <;> omega
theorem al_bounds {p : Int} (h0 : -15 ≤ p) (h7 : p ≤ 19) : -2 ≤ al p ∧ al p ≤ 2 := by unfold al; omega
theorem al_tonic {p : Int} (h0 : -8 ≤ p) (h7 : p ≤ 12) : -1 ≤ al p ∧ al p ≤ 1 := by unfold al; omega

/-- A key, by its two numbers in small ranges. -/
theorem ofFin {Q : Int → Prop} (h : ∀ k : Fin 15, Q ((k.val : Int) - 7)) {f : Int} (h0 : -7 ≤ f) (h7 : f ≤ 7) : Q f := by
  have := h ⟨(f + 7).toNat, by omega⟩
  rw [show (((f + 7).toNat : Nat) : Int) - 7 = f by omega] at this
  exact this
theorem ofFin7 {Q : Int → Prop} (h : ∀ k : Fin 7, Q (k.val : Int)) {s : Int} (h0 : 0 ≤ s) (h6 : s ≤ 6) : Q s := by
  have := h ⟨s.toNat, by omega⟩
  rw [show ((s.toNat : Nat) : Int) = s by omega] at this
  exact this

theorem sg_all : ∀ (k : Fin 15) (s : Fin 7), decide (-1 ≤ sg ((k.val : Int) - 7) (s.val : Int) ∧ sg ((k.val : Int) - 7) (s.val : Int) ≤ 1 ∧ 0 ≤ sg ((k.val : Int) - 7) (s.val : Int) * ((k.val : Int) - 7)) = true := by decide +kernel
theorem sg_bounds {f s : Int} (h0 : -7 ≤ f) (h7 : f ≤ 7) (s0 : 0 ≤ s) (s6 : s ≤ 6) : -1 ≤ sg f s ∧ sg f s ≤ 1 ∧ 0 ≤ sg f s * f :=
  of_decide_eq_true (ofFin7 (Q := fun s => decide (-1 ≤ sg f s ∧ sg f s ≤ 1 ∧ 0 ≤ sg f s * f) = true) (fun s => ofFin (Q := fun f => decide (-1 ≤ sg f (s.val : Int) ∧ sg f (s.val : Int) ≤ 1 ∧ 0 ≤ sg f (s.val : Int) * f) = true) (fun k => sg_all k s) h0 h7) s0 s6)
def sum7 (f : Int → Int) : Nat → Int
  | 0 => 0
  | n + 1 => sum7 f n + f (n : Int)
theorem sum_all : ∀ k : Fin 15, sum7 (sg ((k.val : Int) - 7)) 7 = (k.val : Int) - 7 := by decide +kernel
theorem sum_sg {f : Int} (h0 : -7 ≤ f) (h7 : f ≤ 7) : sum7 (sg f) 7 = f := ofFin (Q := fun f => sum7 (sg f) 7 = f) sum_all h0 h7
theorem fifth_all : ∀ (k : Fin 14) (s : Fin 7), (sg ((k.val : Int) - 7 + 1) (s.val : Int) == sg ((k.val : Int) - 7) (s.val : Int) || sg ((k.val : Int) - 7 + 1) (s.val : Int) == sg ((k.val : Int) - 7) (s.val : Int) + 1) = true := by decide +kernel
theorem fifth_sg {f s : Int} (h0 : -7 ≤ f) (h7 : f ≤ 6) (s0 : 0 ≤ s) (s6 : s ≤ 6) : sg (f + 1) s = sg f s ∨ sg (f + 1) s = sg f s + 1 := by
  have h := fifth_all ⟨(f + 7).toNat, by omega⟩ ⟨s.toNat, by omega⟩
  simp only [show (((f + 7).toNat : Nat) : Int) - 7 = f by omega, show ((s.toNat : Nat) : Int) = s by omega, Bool.or_eq_true, beq_iff_eq] at h
  exact h
theorem rel_all : ∀ k : Fin 15, decide (scS ((k.val : Int) - 7) true 0 = scS ((k.val : Int) - 7) false 5 ∧ scA ((k.val : Int) - 7) true 0 = scA ((k.val : Int) - 7) false 5) = true := by decide +kernel
theorem rel_sc {f : Int} (h0 : -7 ≤ f) (h7 : f ≤ 7) : scS f true 0 = scS f false 5 ∧ scA f true 0 = scA f false 5 :=
  of_decide_eq_true (ofFin (Q := fun f => decide (scS f true 0 = scS f false 5 ∧ scA f true 0 = scA f false 5) = true) rel_all h0 h7)
theorem back_all : ∀ (k : Fin 15) (m : Bool), rdK (tx ((k.val : Int) - 7) m) = some ((k.val : Int) - 7, m) := by decide +kernel
theorem rd_tx {f : Int} (m : Bool) (h0 : -7 ≤ f) (h7 : f ≤ 7) : rdK (tx f m) = some (f, m) := ofFin (Q := fun f => rdK (tx f m) = some (f, m)) (fun k => back_all k m) h0 h7
theorem rd_nil : rdK [] = none := by decide +kernel
theorem scale_all : ∀ (k : Fin 15) (m : Bool) (i : Fin 7), (Pit.right (scS ((k.val : Int) - 7) m i.val) (scA ((k.val : Int) - 7) m i.val) (scO ((k.val : Int) - 7) m i.val) && (spell ((k.val : Int) - 7) (Pit.num (scS ((k.val : Int) - 7) m i.val) (scA ((k.val : Int) - 7) m i.val) (scO ((k.val : Int) - 7) m i.val)) == some (scS ((k.val : Int) - 7) m i.val, scA ((k.val : Int) - 7) m i.val, scO ((k.val : Int) - 7) m i.val))) = true := by decide +kernel
theorem scale_sp {f i : Int} (m : Bool) (h0 : -7 ≤ f) (h7 : f ≤ 7) (i0 : 0 ≤ i) (i6 : i ≤ 6) :
    Pit.right (scS f m i) (scA f m i) (scO f m i) = true ∧ spell f (Pit.num (scS f m i) (scA f m i) (scO f m i)) = some (scS f m i, scA f m i, scO f m i) := by
  have h := ofFin7 (Q := fun i => (Pit.right (scS f m i) (scA f m i) (scO f m i) && (spell f (Pit.num (scS f m i) (scA f m i) (scO f m i)) == some (scS f m i, scA f m i, scO f m i))) = true)
    (fun i => ofFin (Q := fun f => (Pit.right (scS f m i.val) (scA f m i.val) (scO f m i.val) && (spell f (Pit.num (scS f m i.val) (scA f m i.val) (scO f m i.val)) == some (scS f m i.val, scA f m i.val, scO f m i.val))) = true) (fun k => scale_all k m i) h0 h7) i0 i6
  rw [Bool.and_eq_true, beq_iff_eq] at h
  exact h
theorem al_right {p : Int} (h0 : -15 ≤ p) (h1 : p ≤ 19) : Pit.right (st p) (al p) 4 = true := by
  apply Pit.right_true
  have hs := st_bounds p
  have ha := al_bounds h0 h1
  refine ⟨hs.1, hs.2, ha.1, ha.2, by decide, by decide, ?_, ?_⟩ <;> rw [Pit.num_eq] <;> rcases Pit.hv_cases (st p) with ⟨_, e⟩ | ⟨_, e⟩ <;> omega
theorem nm_eq {p : Int} (h0 : -15 ≤ p) (h1 : p ≤ 19) : nm p = Pit.num (st p) (al p) 4 := by unfold nm; rw [if_pos (al_right h0 h1)]
theorem nm_bounds (p : Int) : 0 ≤ nm p ∧ nm p ≤ 127 := by
  unfold nm
  split
  · rename_i h
    have := (Pit.right_iff _ _ _).1 h
    exact ⟨this.n0, this.nM⟩
  · omega
theorem mem_places {a p : Int} {n : Nat} (h : p ∈ places a n) : a ≤ p ∧ p < a + (n : Int) := by
  unfold places upto at h
  obtain ⟨k, hk, rfl⟩ := List.mem_map.1 h
  have := List.mem_range.1 hk
  omega
theorem cls_hit {f n p : Int} (h : cls f n = some p) : hit n p = true ∧ f - 5 ≤ p ∧ p ≤ f + 6 := by
  have := mem_places (List.mem_of_find?_eq_some h)
  exact ⟨List.find?_some h, this.1, by omega⟩
/-- The octave that a number is spelled in. -/
theorem hit_num {n p : Int} (h : hit n p = true) (h0 : -15 ≤ p) (h1 : p ≤ 19) : Pit.num (st p) (al p) (4 + (n - nm p).tdiv 12) = n := by
  unfold hit at h
  rw [beq_iff_eq] at h
  have hN := nm_eq h0 h1
  have hd := Int.mul_tdiv_add_tmod (n - nm p) 12
  rw [h] at hd
  rw [Pit.num_eq] at hN ⊢
  generalize nm p = N at *
  omega
theorem spell_num {f n s a o : Int} (h0 : -7 ≤ f) (h7 : f ≤ 7) (h : spell f n = some (s, a, o)) : Pit.IsRight s a o ∧ Pit.num s a o = n := by
  unfold spell at h
  cases hc : cls f n with
  | none => rw [hc] at h; cases h
  | some p =>
    rw [hc] at h
    obtain ⟨hh, b0, b1⟩ := cls_hit hc
    change spOf n p = some (s, a, o) at h
    unfold spOf at h
    split at h
    · rename_i hr
      simp only [Option.some.injEq, Prod.mk.injEq] at h
      obtain ⟨rfl, rfl, rfl⟩ := h
      exact ⟨(Pit.right_iff _ _ _).1 hr, hit_num hh (by omega) (by omega)⟩
    · cases h
/-- Just one of the twelve places spells a number. -/
theorem one_all : ((List.range 15).all fun k => (List.range 128).all fun n => ((places ((k : Int) - 7 - 5) 12).filter (hit (n : Int))).length == 1) = true := by decide +kernel
theorem one_hit {f n : Int} (h0 : -7 ≤ f) (h7 : f ≤ 7) (n0 : 0 ≤ n) (n1 : n ≤ 127) : ∃ p, (places (f - 5) 12).filter (hit n) = [p] := by
  have h := List.all_eq_true.1 (List.all_eq_true.1 one_all (f + 7).toNat (List.mem_range.2 (by omega))) n.toNat (List.mem_range.2 (by omega))
  rw [show (((f + 7).toNat : Nat) : Int) - 7 = f by omega, show ((n.toNat : Nat) : Int) = n by omega, beq_iff_eq] at h
  exact List.length_eq_one_iff.1 h
theorem cls_some {f n : Int} (h0 : -7 ≤ f) (h7 : f ≤ 7) (n0 : 0 ≤ n) (n1 : n ≤ 127) : ∃ p, cls f n = some p := by
  obtain ⟨p, hp⟩ := one_hit h0 h7 n0 n1
  cases hc : cls f n with
  | some q => exact ⟨q, rfl⟩
  | none =>
    have hm : p ∈ (places (f - 5) 12).filter (hit n) := by rw [hp]; simp
    obtain ⟨h1, h2⟩ := List.mem_filter.1 hm
    exact absurd h2 (List.find?_eq_none.1 hc p h1)
theorem hit_one {f n p q : Int} (h0 : -7 ≤ f) (h7 : f ≤ 7) (n0 : 0 ≤ n) (n1 : n ≤ 127) (hc : cls f n = some p) (hq : q ∈ places (f - 5) 12) (hh : hit n q = true) : q = p := by
  obtain ⟨r, hr⟩ := one_hit h0 h7 n0 n1
  have e1 : q ∈ (places (f - 5) 12).filter (hit n) := List.mem_filter.2 ⟨hq, hh⟩
  have e2 : p ∈ (places (f - 5) 12).filter (hit n) := List.mem_filter.2 ⟨List.mem_of_find?_eq_some hc, (cls_hit hc).1⟩
  rw [hr, List.mem_singleton] at e1 e2
  rw [e1, e2]
/-- Where a key goes, its tonic goes. -/
def tonOk (f : Int) (m : Bool) (S H : Int) : Bool :=
  !okF (f + (7 * H - 12 * S)) || match Pit.up (scS f m 0) (scA f m 0) (scO f m 0) S H with | some (s, a, _) => s == scS (f + (7 * H - 12 * S)) m 0 && a == scA (f + (7 * H - 12 * S)) m 0 | none => true
theorem ton_all : ((List.range 15).all fun k => (List.range 29).all fun S => (List.range 53).all fun H => tonOk ((k : Int) - 7) false ((S : Int) - 14) ((H : Int) - 26) && tonOk ((k : Int) - 7) true ((S : Int) - 14) ((H : Int) - 26)) = true := by decide +kernel
theorem ton_ok {f S H : Int} (m : Bool) (h0 : -7 ≤ f) (h7 : f ≤ 7) (s0 : -14 ≤ S) (s1 : S ≤ 14) (g0 : -7 ≤ f + (7 * H - 12 * S)) (g7 : f + (7 * H - 12 * S) ≤ 7) {s a o : Int} (hu : Pit.up (scS f m 0) (scA f m 0) (scO f m 0) S H = some (s, a, o)) :
    s = scS (f + (7 * H - 12 * S)) m 0 ∧ a = scA (f + (7 * H - 12 * S)) m 0 := by
  have h := List.all_eq_true.1 (List.all_eq_true.1 (List.all_eq_true.1 ton_all (f + 7).toNat (List.mem_range.2 (by omega))) (S + 14).toNat (List.mem_range.2 (by omega))) (H + 26).toNat (List.mem_range.2 (by omega))
  rw [show (((f + 7).toNat : Nat) : Int) - 7 = f by omega, show (((S + 14).toNat : Nat) : Int) - 14 = S by omega, show (((H + 26).toNat : Nat) : Int) - 26 = H by omega, Bool.and_eq_true] at h
  have h' : tonOk f m S H = true := by cases m; exact h.1; exact h.2
  unfold tonOk at h'
  rw [okF_true g0 g7, hu] at h'
  simp only [Bool.not_true, Bool.false_or, Bool.and_eq_true, beq_iff_eq] at h'
  exact h'
end Go.Proofs.YtahcbgngdpjhkaaDoor.Key
