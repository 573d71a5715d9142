/-
  The contracts of event.together, firstWord.
-/
import Derived.Test.YtnfnonlbokddfaaDoorEvJ
namespace Go.Proofs.YtnfnonlbokddfaaDoor
open Go.RowKit

open Evt (P3 Ev)
/-- Why events cannot be one. -/
def tog : List Ev → Int
  | [] => 2
  | x :: l => if !((x :: l).all Evt.right) then 60 else if !((x :: l).all (Evt.sameVal x)) then 2 else 0
theorem tog_cons (x : Ev) (l : List Ev) : tog (x :: l) = if !((x :: l).all Evt.right) then 60 else if !((x :: l).all (Evt.sameVal x)) then 2 else 0 := rfl
theorem eqV_same (x y : Ev) : eqV y.b y.d y.n y.e x.b x.d x.n x.e = Evt.sameVal x y := by
  rw [Bool.eq_iff_iff, eqV_iff]; simp [Evt.sameVal]

set_option maxRecDepth 100000 in
set_option maxHeartbeats 4000000 in
theorem tog_nil (v : Value) (w : World) (h : Evs w v []) : Calls Tryd.prog 45 #[v] w fun ed w' => ed = .returned (.int .i64 2) ∧ Below w.heap.size w w' := by
  obtain ⟨p0, c0, rfl, hl1⟩ := sl_shape h.row
  have hz : (([] : List EM).length : Int) = 0 := rfl
  clear h
  go_enter Tryd.func45, Tryd.ntmps45
  go_wp2
  go_ret
  exact ⟨rfl, Below.refl _ _⟩

set_option maxRecDepth 100000 in
set_option maxHeartbeats 4000000 in
theorem tog_wrong (v : Value) (ys : List EM) (w : World) (h : Evs w v ys) (hR : Ready w) (hn : ((ys.length : Int) == 0) = false) (HA : Hid (ys.all (fun y => Evt.right y.1) = false)) : Calls Tryd.prog 45 #[v] w fun ed w' => ed = .returned (.int .i64 60) ∧ Below w.heap.size w w' := by
  have HC := Lib.hid h
  obtain ⟨p0, c0, rfl, hl1⟩ := sl_shape h.row
  clear h
  go_enter Tryd.func45, Tryd.ntmps45
  go_wp2_with fail
  refine ((everyE_right _ ys _ HC.out hR)).mono ?_
  rintro e w1 ⟨rfl, hb⟩
  rw [HA.out]
  go_wp2
  go_ret
  exact ⟨rfl, hb⟩

set_option maxRecDepth 100000 in
set_option maxHeartbeats 4000000 in
theorem tog_two (v : Value) (ys : List EM) (w : World) (h : Evs w v ys) (hR : Ready w) (hn : ((ys.length : Int) == 0) = false) (HA : Hid (ys.all (fun y => Evt.right y.1) = true)) (y : EM) (hy : ys[0]? = some y) (q : Bool) (HS : Hid (ys.all (fun z => eqV z.1.b z.1.d z.1.n z.1.e y.1.b y.1.d y.1.n y.1.e) = q)) :
    Calls Tryd.prog 45 #[v] w fun ed w' => ed = .returned (.int .i64 (if q then 0 else 2)) ∧ Below w.heap.size w w' := by
  have HC := Lib.hid h
  obtain ⟨p0, c0, rfl, hl1⟩ := sl_shape h.row
  obtain ⟨b1, o1, e1, -, -, -, hc3, hc4, hc5, hc6, -, -⟩ := evs_at HC.out hy
  have hpos : 0 < ys.length := (List.getElem?_eq_some_iff.1 hy).1
  have hposI : (0 : Int) < (ys.length : Int) := by omega
  subst e1
  rw [Nat.zero_mul, Nat.add_zero] at hc3 hc4 hc5 hc6
  clear h hy
  go_enter Tryd.func45, Tryd.ntmps45
  go_wp2_with fail
  refine ((everyE_right _ ys _ HC.out hR)).mono ?_
  rintro e w1 ⟨rfl, hb⟩
  rw [HA.out]
  replace hc3 := cell_later hb hc3
  replace hc4 := cell_later hb hc4
  replace hc5 := cell_later hb hc5
  replace hc6 := cell_later hb hc6
  go_wp2_with fail
  refine ((everyE_same _ ys _ (HC.out.later (below_two hb ((Below.refl _ _).alloc (Nat.le_refl _) _))) w1.heap.size y.1.b y.1.d y.1.n y.1.e (by go_simp) (by go_simp) (by go_simp) (by go_simp))).mono ?_
  rintro e w2 ⟨rfl, hb2⟩
  rw [HS.out]
  cases q
  all_goals
    go_wp2
    go_ret
    exact ⟨rfl, below_two (alloc_below hb) hb2⟩
theorem tog_any (v : Value) (ys : List EM) (w : World) (h : Evs w v ys) (hR : Ready w) : Calls Tryd.prog 45 #[v] w fun ed w' => ed = .returned (.int .i64 (tog (ys.map Prod.fst))) ∧ Below w.heap.size w w' := by
  cases ys with
  | nil => exact tog_nil v w h
  | cons y ys =>
    have hn : (((y :: ys).length : Int) == 0) = false := by simp; omega
    have e1 : ((y :: ys).map Prod.fst).all Evt.right = (y :: ys).all (fun y => Evt.right y.1) := by rw [List.all_map]; rfl
    have e2 : ((y :: ys).map Prod.fst).all (Evt.sameVal y.1) = (y :: ys).all (fun z => eqV z.1.b z.1.d z.1.n z.1.e y.1.b y.1.d y.1.n y.1.e) := by
      rw [List.all_map]
      congr 1
      funext z
      exact (eqV_same y.1 z.1).symm
    rw [List.map_cons] at e1 e2 ⊢
    rw [tog_cons]
    cases hA : (y :: ys).all (fun y => Evt.right y.1)
    · rw [e1, hA]; exact tog_wrong v (y :: ys) w h hR hn (Lib.hid hA)
    · rw [e1, hA, e2]
      have := tog_two v (y :: ys) w h hR hn (Lib.hid hA) y rfl _ (Lib.hid rfl)
      cases hS : (y :: ys).all (fun z => eqV z.1.b z.1.d z.1.n z.1.e y.1.b y.1.d y.1.n y.1.e) <;> rw [hS] at this <;> exact this
theorem tog_is {ys : List EM} {e : Int} (he : tog (ys.map Prod.fst) = e) (v : Value) (w : World) (h : Evs w v ys) (hR : Ready w) : Calls Tryd.prog 45 #[v] w fun ed w' => ed = .returned (.int .i64 e) ∧ Below w.heap.size w w' := by subst he; exact tog_any v ys w h hR

def FwRel (ys : List EM) (w : World) (i : Value) (wr : World) : Prop := ∃ k : Nat, k ≤ ys.length ∧ i = .int .i64 (k : Int) ∧ Evt.fw (ys.map Prod.fst) = Evt.fw ((ys.drop k).map Prod.fst) ∧ Below w.heap.size w wr
theorem fw_step {ys : List EM} {k : Nat} {y : EM} (hy : ys[k]? = some y) (h : Evt.fw (ys.map Prod.fst) = Evt.fw ((ys.drop k).map Prod.fst)) : Evt.fw (ys.map Prod.fst) = if y.1.s.size = 0 then Evt.fw ((ys.drop (k + 1)).map Prod.fst) else y.1.s := by
  obtain ⟨hk, rfl⟩ := List.getElem?_eq_some_iff.1 hy
  rw [h, List.drop_eq_getElem_cons hk]
  rfl

set_option maxRecDepth 100000 in
set_option maxHeartbeats 4000000 in
theorem firstWord_any (v : Value) (ys : List EM) (w : World) (h : Evs w v ys) :
    Calls Tryd.prog 47 #[v] w fun ed w' => ed = .returned (.string (Evt.fw (ys.map Prod.fst))) ∧ Below w.heap.size w w' := by
  have HC := Lib.hid h
  obtain ⟨p0, c0, rfl, hl1⟩ := sl_shape h.row
  clear h
  go_enter Tryd.func47, Tryd.ntmps47
  go_wp2
  go_loopw [7] (fun i wr => FwRel ys w i wr) (fun i _ => ys.length - (intOf i).toNat)
  case atStart => exact ⟨0, Nat.zero_le _, rfl, rfl, Below.refl _ _⟩
  case round =>
    obtain ⟨k, hk, rfl, he, hB⟩ := hrel
    have HE := Lib.hid he
    clear he
    by_cases hlt : k < ys.length
    · obtain ⟨y, hy⟩ : ∃ y, ys[k]? = some y := ⟨_, List.getElem?_eq_getElem hlt⟩
      have hyR := HC.out.each y (List.mem_of_getElem? hy)
      obtain ⟨p1, c1, p2, c2, p3, c3, hys⟩ := evs_shape hyR
      have hat := evs_at HC.out hy
      generalize y.1 = x at *
      subst hys
      obtain ⟨k0, ps, ts, b, d, n, e0, ms, str⟩ := x
      obtain ⟨b1, o1, e1, hc0, hc1, hc2, hc3, hc4, hc5, hc6, hc7, hc8⟩ := hat
      subst e1
      dsimp only at hyR hc0 hc1 hc2 hc3 hc4 hc5 hc6 hc7 hc8
      have hsz := hyR.sz
      replace hc0 := cell_later hB hc0
      replace hc1 := cell_later hB hc1
      replace hc2 := cell_later hB hc2
      replace hc3 := cell_later hB hc3
      replace hc4 := cell_later hB hc4
      replace hc5 := cell_later hB hc5
      replace hc6 := cell_later hB hc6
      replace hc7 := cell_later hB hc7
      replace hc8 := cell_later hB hc8
      have HER : Hid (EvR wr (.slice p1 ps.length c1) (.slice p2 ts.length c2) (.slice p3 ms.length c3) ⟨k0, ps, ts, b, d, n, e0, ms, str⟩) := Lib.hid (hyR.later hB)
      have HY := Lib.hid hy
      have hlt' : (k : Int) < (ys.length : Int) := by omega
      clear hy hyR
      have HS := Lib.hid (fw_step HY.out HE.out)
      by_cases hs0 : str.size = 0
      · have ht : (str.toList == ([] : List UInt8)) = true := by rw [ByteArray.toList_eq]; simp; exact Array.eq_empty_of_size_eq_zero hs0
        have ht2 : str.toList = [] := by simpa using ht
        have ht3 : (!str.toList.isEmpty) = false := by rw [ht2]; rfl
        have HN : Hid (Evt.fw (ys.map Prod.fst) = Evt.fw ((ys.drop (k + 1)).map Prod.fst)) := Lib.hid (by rw [HS.out, if_pos hs0])
        clear hs0 ht
        go_wp2
        exact ⟨⟨k + 1, by omega, by go_num, HN.out, alloc_below hB⟩, by simp [intOf]; omega⟩
      · have ht2 : ¬ str.toList = [] := by rw [ByteArray.toList_eq]; intro e; exact hs0 (by have := congrArg List.length e; simpa using this)
        have ht3 : (!str.toList.isEmpty) = true := by cases hl : str.toList with | nil => exact absurd hl ht2 | cons a l => rfl
        have HN : Hid (Evt.fw (ys.map Prod.fst) = str) := Lib.hid (by rw [HS.out, if_neg hs0])
        clear hs0
        go_wp2
        go_ret
        exact ⟨by rw [HN.out]; rfl, alloc_below hB⟩
    · obtain rfl : k = ys.length := by omega
      have HN : Hid (Evt.fw (ys.map Prod.fst) = ⟨#[]⟩) := Lib.hid (by have := HE.out; rw [List.drop_length] at this; exact this)
      go_wp2
      go_ret
      exact ⟨by rw [HN.out]; rfl, hB⟩
theorem firstWord_is {ys : List EM} {t : ByteArray} (ht : Evt.fw (ys.map Prod.fst) = t) (v : Value) (w : World) (h : Evs w v ys) : Calls Tryd.prog 47 #[v] w fun ed w' => ed = .returned (.string t) ∧ Below w.heap.size w w' := by subst ht; exact firstWord_any v ys w h
end Go.Proofs.YtnfnonlbokddfaaDoor
