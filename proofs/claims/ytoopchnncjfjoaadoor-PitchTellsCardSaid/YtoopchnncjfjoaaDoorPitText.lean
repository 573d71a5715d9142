/-
  The texts of pitches: what Text shows, what is taken of a text's head, and what Read answers of all. No program.
-/
import Derived.Test.YtoopchnncjfjoaaDoorPitMath
import Derived.Lib.AtoiAll
import Derived.Lib.ItoaLen
import Derived.Laws.RangeAny
namespace Go.Proofs.YtoopchnncjfjoaaDoor.Pit
open Go.Lib

def leB (s : Int) : UInt8 := [67, 68, 69, 70, 71, 65, 66].getD s.toNat 0
def sgB (a : Int) : List UInt8 := if a = -2 then [98, 98] else if a = -1 then [98] else if a = 1 then [35] else if a = 2 then [35, 35] else []
def txt (s a o : Int) : List UInt8 := leB s :: (sgB a ++ itoa o)
/-- The step of a letter; -1, if there is none. -/
def stepOf (c : Nat) : Int := if c = 67 then 0 else if c = 68 then 1 else if c = 69 then 2 else if c = 70 then 3 else if c = 71 then 4 else if c = 65 then 5 else if c = 66 then 6 else -1
/-- Letter and signs ahead, and where the rest begins. -/
def hdGo (s : ByteArray) : Nat → Nat → Int → Int → Int × Int × Nat
  | 0, pos, S, A => (S, A, pos)
  | f + 1, pos, S, A =>
    if pos < s.size then
      if pos = 0 then hdGo s f (pos + (Utf8.decode s pos).2) (stepOf (Utf8.decode s pos).1) A
      else if (Utf8.decode s pos).1 = 35 then hdGo s f (pos + (Utf8.decode s pos).2) S (A + 1)
      else if (Utf8.decode s pos).1 = 98 then hdGo s f (pos + (Utf8.decode s pos).2) S (A - 1)
      else (S, A, pos)
    else (S, A, s.size)
def hd (s : ByteArray) : Int × Int × Nat := hdGo s (s.size + 1) 0 0 0
def restOf (s : ByteArray) : List UInt8 := s.data.toList.drop (hd s).2.2
def rdOf (x : NumEnd Int) (S A : Int) (l : List UInt8) : Option (Int × Int × Int) :=
  match x with
  | .ok o => if right S A o && (txt S A o == l) then some (S, A, o) else none
  | _ => none
def rdP (s : ByteArray) : Option (Int × Int × Int) := rdOf (atoiAll (restOf s)) (hd s).1 (hd s).2.1 s.data.toList
/-- What Read answers. -/
def rd (l : List UInt8) : Option (Int × Int × Int) := rdP ⟨l.toArray⟩

theorem rd_sound {l : List UInt8} {s a o : Int} (h : rd l = some (s, a, o)) : right s a o = true ∧ txt s a o = l := by
  unfold rd rdP rdOf at h
  split at h
  · split at h
    · rename_i hc
      simp only [Option.some.injEq, Prod.mk.injEq] at h
      obtain ⟨rfl, rfl, rfl⟩ := h
      rw [Bool.and_eq_true] at hc
      exact ⟨hc.1, by simpa using hc.2⟩
    · cases h
  · cases h

theorem box {P : Int → Int → Int → Prop} (h : ∀ (s : Fin 7) (a : Fin 5) (o : Fin 11), P (s.val : Int) ((a.val : Int) - 2) ((o.val : Int) - 1)) {s a o : Int} (hr : IsRight s a o) : P s a o := by
  obtain ⟨h0, h1, h2, h3, h4, h5, -⟩ := hr.all
  have := h ⟨s.toNat, by omega⟩ ⟨(a + 2).toNat, by omega⟩ ⟨(o + 1).toNat, by omega⟩
  rw [show ((s.toNat : Nat) : Int) = s by omega, show (((a + 2).toNat : Nat) : Int) - 2 = a by omega, show (((o + 1).toNat : Nat) : Int) - 1 = o by omega] at this
  exact this
def okAt (s a o : Int) : Bool := decide (hd ⟨(txt s a o).toArray⟩ = (s, a, 1 + (sgB a).length)) && decide ((txt s a o).drop (1 + (sgB a).length) = itoa o) && (match atoiAll (itoa o) with | .ok v => decide (v = o) | _ => false) && decide (2 ≤ (txt s a o).length) && decide ((txt s a o).length ≤ 5)
theorem ok_all : ∀ (s : Fin 7) (a : Fin 5) (o : Fin 11), okAt (s.val : Int) ((a.val : Int) - 2) ((o.val : Int) - 1) = true := by decide +kernel
theorem ok_at {s a o : Int} (hr : IsRight s a o) : hd ⟨(txt s a o).toArray⟩ = (s, a, 1 + (sgB a).length) ∧ (txt s a o).drop (1 + (sgB a).length) = itoa o ∧ atoiAll (itoa o) = .ok o ∧ 2 ≤ (txt s a o).length ∧ (txt s a o).length ≤ 5 := by
  have := box (P := fun s a o => okAt s a o = true) ok_all hr
  unfold okAt at this
  simp only [Bool.and_eq_true, decide_eq_true_eq] at this
  obtain ⟨⟨⟨⟨h1, h2⟩, h3⟩, h4⟩, h5⟩ := this
  refine ⟨h1, h2, ?_, h4, h5⟩
  split at h3
  · rename_i v hv
    have : v = o := by simpa using h3
    rw [hv, this]
  · cases h3
theorem rd_txt {s a o : Int} (hr : IsRight s a o) : rd (txt s a o) = some (s, a, o) := by
  obtain ⟨h1, h2, h3, -⟩ := ok_at hr
  unfold rd rdP restOf
  rw [h1]
  show rdOf (atoiAll ((txt s a o).drop (1 + (sgB a).length))) s a (txt s a o) = _
  rw [h2, h3]
  unfold rdOf
  simp [right_true hr]
theorem txt_inj {s a o s' a' o' : Int} (hr : IsRight s a o) (hr' : IsRight s' a' o') (h : txt s a o = txt s' a' o') : s = s' ∧ a = a' ∧ o = o' := by
  have h1 := rd_txt hr
  rw [h, rd_txt hr'] at h1
  simp only [Option.some.injEq, Prod.mk.injEq] at h1
  exact ⟨h1.1.symm, h1.2.1.symm, h1.2.2.symm⟩
theorem txt_len {s a o : Int} (hr : IsRight s a o) : 2 ≤ (txt s a o).length ∧ (txt s a o).length ≤ 5 := (ok_at hr).2.2.2
end Go.Proofs.YtoopchnncjfjoaaDoor.Pit
