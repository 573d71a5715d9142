/-
  What PitchNames gathers: of a number, the right pitches that have it, line by line. And what an owned row's cells hold.
-/
import Derived.Test.YtoopchnncjfjoaaDoorPitI
import Derived.Test.YtoopchnncjfjoaaDoorPitRow
import Derived.OwnWalk
namespace Go.Proofs.YtoopchnncjfjoaaDoor
open Go.RowKit

abbrev Trip := Int × Int × Int
def lnS (j : Nat) : Int := ((j % 7 : Nat) : Int)
def lnO (j : Nat) : Int := ((j / 7 : Nat) : Int) - 1
def altJ (n : Int) (j : Nat) : Int := n - Pit.num (lnS j) 0 (lnO j)
def hitJ (n : Int) (j : Nat) : Bool := Pit.right (lnS j) (altJ n j) (lnO j)
def oneJ (n : Int) (j : Nat) : List Trip := if hitJ n j then [(lnS j, altJ n j, lnO j)] else []
def items (n : Int) : Nat → List Trip
  | 0 => []
  | j + 1 => items n j ++ oneJ n j
/-- Of one line, the signs below a bound. -/
def partJ (n : Int) (j : Nat) (al : Int) : List Trip := if hitJ n j && decide (altJ n j < al) then [(lnS j, altJ n j, lnO j)] else []
def rowOf (l : List Trip) : List Value := l.flatMap fun p => [.int .i64 p.1, .int .i64 p.2.1, .int .i64 p.2.2]

theorem items_length (n : Int) (j : Nat) : (items n j).length ≤ j := by
  induction j with
  | zero => simp [items]
  | succ j ih => simp only [items, List.length_append, oneJ]; split <;> simp <;> omega
theorem partJ_length (n : Int) (j : Nat) (al : Int) : (partJ n j al).length ≤ 1 := by unfold partJ; split <;> simp
theorem num_alt (n : Int) (j : Nat) : Pit.num (lnS j) (altJ n j) (lnO j) = n := by unfold altJ; simp only [Pit.num_eq]; omega
theorem partJ_start (n : Int) (j : Nat) : partJ n j (-2) = [] := by
  unfold partJ
  cases h : hitJ n j with
  | false => rfl
  | true =>
    have := ((Pit.right_iff _ _ _).1 h).a0
    rw [decide_eq_false (by omega)]; rfl
theorem partJ_end (n : Int) (j : Nat) : partJ n j 3 = oneJ n j := by
  unfold partJ oneJ
  cases h : hitJ n j with
  | false => rfl
  | true =>
    have := ((Pit.right_iff _ _ _).1 h).a2
    rw [decide_eq_true (by omega)]; rfl
theorem partJ_hit {n : Int} {j : Nat} {al : Int} (h1 : Pit.right (lnS j) al (lnO j) = true) (h2 : Pit.num (lnS j) al (lnO j) = n) : partJ n j (al + 1) = partJ n j al ++ [(lnS j, al, lnO j)] := by
  have e : altJ n j = al := by unfold altJ; rw [← h2]; simp only [Pit.num_eq]; omega
  have hh : hitJ n j = true := by unfold hitJ; rw [e]; exact h1
  unfold partJ
  rw [hh, e, decide_eq_true (by omega), decide_eq_false (by omega)]; rfl
theorem partJ_miss {n : Int} {j : Nat} {al : Int} (h : Pit.right (lnS j) al (lnO j) = false ∨ Pit.num (lnS j) al (lnO j) ≠ n) : partJ n j (al + 1) = partJ n j al := by
  unfold partJ
  cases hh : hitJ n j with
  | false => rfl
  | true =>
    have hne : altJ n j ≠ al := by
      intro e
      rcases h with h | h
      · unfold hitJ at hh; rw [e, h] at hh; cases hh
      · exact h (by rw [← e]; exact num_alt n j)
    by_cases hl : altJ n j < al
    · rw [decide_eq_true (by omega), decide_eq_true hl]
    · rw [decide_eq_false (by omega), decide_eq_false hl]
theorem rowOf_append (l m : List Trip) : rowOf (l ++ m) = rowOf l ++ rowOf m := by unfold rowOf; simp

/-- Neighbours in the list rise. -/
def rises : List Trip → Bool
  | [] => true
  | [_] => true
  | (s, a, o) :: (t, b, p) :: r => decide (Pit.cmpP (Pit.right s a o && Pit.right t b p) s a o t b p = -1) && rises ((t, b, p) :: r)
def goodN (n : Int) : Bool := rises (items n 77) && (if 127 < n then decide ((items n 77).length = 0) else decide (1 ≤ (items n 77).length ∧ (items n 77).length ≤ 3))
theorem good_all : ∀ n : Fin 140, goodN (n.val : Int) = true := by decide +kernel
theorem good_at {n : Int} (h0 : 0 ≤ n) (h1 : n < 140) : goodN n = true := by
  have := good_all ⟨n.toNat, by omega⟩
  simp only at this
  rw [show ((n.toNat : Nat) : Int) = n by omega] at this
  exact this

theorem own_later {w w' : World} {base : Nat} {e : TypeId} {size : Nat} {v : Value} {n : Nat} {xs : List Value} (h : w.ownsRow base e size v n xs) (hb : Below w.heap.size w w') : w'.ownsRow base e size v n xs :=
  h.kept (row := none) ⟨hb.os, hb.tape, hb.output, hb.size, fun k hk _ => hb.block k hk⟩ (by cases hv : v.ownBlock <;> simp)
theorem infoP : (Tryd.prog.info? 23).map (fun i => (i.zero, i.size, i.bytes)) = some (some (.agg #[.int .i64 0, .int .i64 0, .int .i64 0]), 3, 24) := by kernel_rfl
end Go.Proofs.YtoopchnncjfjoaaDoor
