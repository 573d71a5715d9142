/-
  Several events together, as the reference puts them: pitch by pitch, in plain words. No program.
-/
import Derived.Test.YtnfnonlbokddfaaDoorEvSum
namespace Go.Proofs.YtnfnonlbokddfaaDoor.Evt
open Go.Proofs.YtnfnonlbokddfaaDoor

theorem zip_fs : ∀ l : List PT, (l.map Prod.fst).zip (l.map Prod.snd) = l
  | [] => rfl
  | x :: l => by rw [List.map_cons, List.map_cons, List.zip_cons_cons, zip_fs l]
theorem putL_length (p : P3) (t : Bool) : ∀ l : List PT, (putL p t l).length ≤ l.length + 1
  | [] => by simp [putL]
  | (q, u) :: r => by
    unfold putL
    by_cases h1 : ky q < ky p
    · rw [if_pos h1]; have := putL_length p t r; simp only [List.length_cons]; omega
    · rw [if_neg h1]
      by_cases h2 : q = p
      · rw [if_pos h2]; simp
      · rw [if_neg h2]; simp
theorem putL_ne (p : P3) (t : Bool) : ∀ l : List PT, putL p t l ≠ []
  | [] => by simp [putL]
  | (q, u) :: r => by
    unfold putL
    by_cases h1 : ky q < ky p
    · rw [if_pos h1]; simp
    · rw [if_neg h1]
      by_cases h2 : q = p
      · rw [if_pos h2]; simp
      · rw [if_neg h2]; simp
theorem putAll_length : ∀ (m a : List PT), (putAll a m).length ≤ a.length + m.length
  | [], a => by rw [putAll_nil]; simp
  | x :: m, a => by
    rw [putAll_cons]
    have h1 := putAll_length m (putL x.1 x.2 a)
    have h2 := putL_length x.1 x.2 a
    simp only [List.length_cons]
    omega
theorem putAll_snoc (a m : List PT) (x : PT) : putAll a (m ++ [x]) = putL x.1 x.2 (putAll a m) := by rw [putAll_append, putAll_cons, putAll_nil]
/-- The chord so far. -/
def soFar (P : List PT) (x : Ev) (ms : List Int) (s : ByteArray) : Ev := ⟨if P = [] then 0 else 1, P.map Prod.fst, P.map Prod.snd, x.b, x.d, x.n, x.e, ms, s⟩
theorem one_soFar (x : Ev) (l : List Ev) : one x l = soFar (allP (x :: l)) x (mk (x :: l)) (fw (x :: l)) := rfl
theorem fw_snoc : ∀ (l : List Ev) (x : Ev), fw (l ++ [x]) = if (fw l).size = 0 then x.s else fw l
  | [], x => by
    show (if x.s.size = 0 then ByteArray.empty else x.s) = x.s
    by_cases h : x.s.size = 0
    · rw [if_pos h]; exact (size0 h).symm
    · rw [if_neg h]
  | y :: l, x => by
    rw [List.cons_append, fw, fw]
    by_cases h : y.s.size = 0
    · rw [if_pos h, if_pos h]; exact fw_snoc l x
    · rw [if_neg h, if_neg h, if_neg h]
/-- The marks so far. -/
def mkTo (l : List Ev) (j : Nat) : List Int := (([1, 2, 3, 4] : List Int).take j).filter fun m => l.any fun x => x.ms.contains m
theorem mkTo_all (l : List Ev) : mkTo l 4 = mk l := rfl
theorem mkTo_succ (l : List Ev) {j : Nat} (h : j < 4) : mkTo l (j + 1) = mkTo l j ++ (if (l.any fun x => x.ms.contains ((j : Int) + 1)) = true then [(j : Int) + 1] else []) := by
  have e : ([1, 2, 3, 4] : List Int).take (j + 1) = ([1, 2, 3, 4] : List Int).take j ++ [(j : Int) + 1] := by
    match j, h with
    | 0, _ => rfl
    | 1, _ => rfl
    | 2, _ => rfl
    | 3, _ => rfl
  unfold mkTo
  rw [e, List.filter_append]
  congr 1
  cases hc : (l.any fun x => x.ms.contains ((j : Int) + 1))
  · rw [List.filter_cons_of_neg (by rw [hc]; simp)]; rfl
  · rw [List.filter_cons_of_pos (by rw [hc])]; rfl
theorem mkTo_length (l : List Ev) (j : Nat) : (mkTo l j).length ≤ 4 := by
  unfold mkTo
  exact Nat.le_trans (List.length_filter_le _ _) (by rw [List.length_take]; exact Nat.min_le_right _ _)
theorem soFar_rgt {P : List PT} (h : RgtT P) {x : Ev} {ms : List Int} {s : ByteArray} : (soFar P x ms s).ps.all rgt = true := by
  rw [List.all_eq_true]
  intro p hp
  obtain ⟨y, hy, e⟩ := List.mem_map.1 hp
  rw [← e]; exact h y hy
theorem any_take {l : List Ev} {q : Nat} {x : Ev} {f : Ev → Bool} (h : l[q]? = some x) : (l.take (q + 1)).any f = ((l.take q).any f || f x) := by
  obtain ⟨hk, rfl⟩ := List.getElem?_eq_some_iff.1 h
  rw [List.take_succ_eq_append_getElem hk, List.any_append]
  simp
theorem fl_take {l : List Ev} {k : Nat} {y : Ev} (h : l[k]? = some y) : fl (l.take (k + 1)) = fl (l.take k) ++ pts y := by
  obtain ⟨hk, rfl⟩ := List.getElem?_eq_some_iff.1 h
  rw [List.take_succ_eq_append_getElem hk]
  unfold fl
  rw [List.flatMap_append]
  simp
theorem fw_take {l : List Ev} {k : Nat} {y : Ev} (h : l[k]? = some y) : fw (l.take (k + 1)) = if (fw (l.take k)).size = 0 then y.s else fw (l.take k) := by
  obtain ⟨hk, rfl⟩ := List.getElem?_eq_some_iff.1 h
  rw [List.take_succ_eq_append_getElem hk, fw_snoc]
theorem rgtT_prefix {m : List PT} {M n : List PT} (h : RgtT M) (e : M = m ++ n) : RgtT m := fun x hx => h x (by rw [e]; exact List.mem_append_left _ hx)
theorem fl_length {l : List Ev} (h : ∀ x ∈ l, IsR x) : (fl l).length ≤ 8 * l.length := by
  induction l with
  | nil => simp [fl]
  | cons x l ih =>
    rw [fl_cons, List.length_append, List.length_cons]
    have h1 := ih (fun y hy => h y (by simp [hy]))
    have h2 := (h x (by simp)).max8
    have h3 : (pts x).length ≤ x.ps.length := by unfold pts; rw [List.length_zip]; exact Nat.min_le_left _ _
    omega
end Go.Proofs.YtnfnonlbokddfaaDoor.Evt
