/-
  Note values as texts, in plain lists of bytes. No program.
-/
import Derived.Test.YtejiifkenanodaaGreatDoorValMath
import Derived.Test.YtejiifkenanodaaGreatDoorRatTextFacts
import Derived.Lib.Repeat
import Derived.Lib.TrimByte
import Derived.Lib.IndexMore
namespace Go.Proofs.YtejiifkenanodaaGreatDoor.Val
open Go.Proofs.YtejiifkenanodaaGreatDoor Go.Lib

/-- How many of a base a whole note has. -/
def bt (b : Int) : Int := 64 / ba b
theorem bt_bounds {b : Int} (h0 : 0 ≤ b) (h6 : b ≤ 6) : 1 ≤ bt b ∧ bt b ≤ 64 := by
  unfold bt; rcases ba_cases h0 h6 with ⟨_, e⟩ | ⟨_, e⟩ | ⟨_, e⟩ | ⟨_, e⟩ | ⟨_, e⟩ | ⟨_, e⟩ | ⟨_, e⟩ <;> rw [e] <;> decide
/-- What stands ahead of the tuplet, and the tuplet. -/
def frB (b d : Int) : List UInt8 := itoa (bt b) ++ List.replicate d.toNat 46
def tuB (n e : Int) : List UInt8 := itoa n ++ 58 :: itoa e
def txt (b d n e : Int) : List UInt8 := frB b d ++ (if n = 0 then [] else 42 :: tuB n e)
def txtE (b d n e : Int) : List UInt8 := if ok b d n e then txt b d n e else []

/-! ### A byte is looked for -/
theorem index_nil {c : UInt8} (l : List UInt8) (h : c ∉ l) : index l [c] = -1 := by
  induction l with
  | nil => rfl
  | cons b l ih =>
    simp only [List.mem_cons, not_or] at h
    have h1 : ([c].isPrefixOf (b :: l)) = false := by simp [List.isPrefixOf]; exact h.1
    simp only [index, h1, ih h.2]
    decide
theorem index_here {c : UInt8} (l r : List UInt8) (h : c ∉ l) : index (l ++ c :: r) [c] = l.length := by
  induction l with
  | nil => simp [index, List.isPrefixOf]
  | cons b l ih =>
    simp only [List.mem_cons, not_or] at h
    have h1 : ([c].isPrefixOf (b :: (l ++ c :: r))) = false := by simp [List.isPrefixOf]; exact h.1
    simp only [List.cons_append, index, h1, ih h.2, List.length_cons]
    rw [if_neg (by decide), if_neg (by simp)]
    omega
theorem cut_none {c : UInt8} {l : List UInt8} (h : c ∉ l) : cut l [c] = (l, [], false) := by
  unfold cut; rw [index_nil l h, if_neg (by decide)]
theorem cut_here {c : UInt8} {l r : List UInt8} (h : c ∉ l) : cut (l ++ c :: r) [c] = (l, r, true) := by
  unfold cut
  rw [index_here l r h, if_pos (by omega)]
  simp
theorem cut_short (c : UInt8) (l : List UInt8) : (cut l [c]).1.length ≤ l.length ∧ (cut l [c]).2.1.length ≤ l.length := by
  unfold cut
  split
  · simp; omega
  · simp

/-! ### Read -/
def rb (l : List UInt8) : Nat := fst (fun k => itoa (bt (k : Int)) == l) 7
def two (x y : NumEnd Int) : Int × Int := match x, y with | .ok n, .ok e => (n, e) | _, _ => (0, 0)
def rtu (l : List UInt8) : Int × Int := two (atoiAll (cut l [58]).1) (atoiAll (cut l [58]).2.1)
def rdOf (k : Nat) (d : Int) (t : Int × Int) (s : List UInt8) : Option (Int × Int × Int × Int) :=
  if k < 7 then (if ok k d t.1 t.2 && (txt k d t.1 t.2 == s) then some ((k : Int), d, t.1, t.2) else none) else none
/-- By what stands ahead of the star, and behind it. -/
def rdIn (f b s : List UInt8) : Option (Int × Int × Int × Int) := rdOf (rb (trimRightB f 46)) ((f.length : Int) - ((trimRightB f 46).length : Int)) (rtu b) s
def rdv (s : List UInt8) : Option (Int × Int × Int × Int) := rdIn (cut s [42]).1 (cut s [42]).2.1 s
theorem rdOf_some {k : Nat} {d : Int} {t : Int × Int} {s : List UInt8} {b d' n e : Int} (h : rdOf k d t s = some (b, d', n, e)) : ok b d' n e = true ∧ txt b d' n e = s := by
  unfold rdOf at h
  split at h
  · split at h
    · rename_i _ hk
      simp only [Option.some.injEq, Prod.mk.injEq] at h
      obtain ⟨rfl, rfl, rfl, rfl⟩ := h
      simpa using hk
    · cases h
  · cases h
theorem rd_some {s : List UInt8} {b d n e : Int} (h : rdv s = some (b, d, n, e)) : ok b d n e = true ∧ txt b d n e = s := rdOf_some h

/-! ### What is shown is read back -/
theorem fr_all : ∀ b : Fin 7, ∀ d : Fin 3, decide (rb (trimRightB (frB b.val d.val) 46) = b.val ∧ (trimRightB (frB b.val d.val) 46).length + d.val = (frB b.val d.val).length ∧ (42 : UInt8) ∉ frB b.val d.val) = true := by decide +kernel
theorem fr_back {b d : Int} (b0 : 0 ≤ b) (b6 : b ≤ 6) (d0 : 0 ≤ d) (d2 : d ≤ 2) : rb (trimRightB (frB b d) 46) = b.toNat ∧ ((frB b d).length : Int) - ((trimRightB (frB b d) 46).length : Int) = d ∧ (42 : UInt8) ∉ frB b d := by
  have := of_decide_eq_true (fr_all ⟨b.toNat, by omega⟩ ⟨d.toNat, by omega⟩)
  simp only [show ((b.toNat : Nat) : Int) = b by omega, show ((d.toNat : Nat) : Int) = d by omega] at this
  exact ⟨this.1, by omega, this.2.2⟩
theorem itoa_no {c : UInt8} (hc : c.toNat = 42 ∨ c.toNat = 58) (n : Int) : c ∉ itoa n := fun h => by
  have := itoa_bytes n c h
  omega
theorem rtu_back {n e : Int} (n0 : 0 ≤ n) (n1 : n ≤ 15) (e0 : 0 ≤ e) (e1 : e ≤ 15) : rtu (tuB n e) = (n, e) := by
  unfold rtu tuB
  rw [cut_here (itoa_no (.inr rfl) n)]
  simp only
  rw [atoi_itoa (by omega) (by omega), atoi_itoa (by omega) (by omega)]
  rfl
theorem rtu_nil : rtu [] = (0, 0) := by decide
theorem rd_txt {b d n e : Int} (h : ok b d n e = true) : rdv (txt b d n e) = some (b, d, n, e) := by
  obtain ⟨b0, b6, d0, d2, hk⟩ := (ok_iff _ _ _ _).1 h
  obtain ⟨f1, f2, f3⟩ := fr_back b0 b6 d0 d2
  have hc : (cut (txt b d n e) [42]).1 = frB b d ∧ rtu (cut (txt b d n e) [42]).2.1 = (n, e) := by
    unfold txt
    rcases hk with ⟨rfl, rfl⟩ | ⟨n0, n1, e0, e1, _⟩
    · rw [if_pos rfl, List.append_nil, cut_none f3]
      exact ⟨rfl, rtu_nil⟩
    · rw [if_neg (by omega), cut_here f3]
      exact ⟨rfl, rtu_back (by omega) n1 (by omega) e1⟩
  unfold rdv rdIn
  rw [hc.1, hc.2, f1, f2]
  unfold rdOf
  rw [if_pos (by omega), show ((b.toNat : Nat) : Int) = b by omega]
  simp only [h]
  simp
theorem txt_inj {b d n e b' d' n' e' : Int} (h : ok b d n e = true) (h' : ok b' d' n' e' = true) (k : txt b d n e = txt b' d' n' e') : b = b' ∧ d = d' ∧ n = n' ∧ e = e' := by
  have x := rd_txt h
  rw [k, rd_txt h'] at x
  simp only [Option.some.injEq, Prod.mk.injEq] at x
  omega
end Go.Proofs.YtejiifkenanodaaGreatDoor.Val
