/-
  The shelf's contract of slices.SortFunc, laid at this program in plain words (lay-plain.mjs); right pitches, sorted by pitch.Compare.
-/
import Derived.Shelf.SlSortCmp.NoneTotal
import Derived.Ground.SlsfProg
import Derived.Test.YtnfnonlbokddfaaDoorEvCmp
import Derived.Test.YtnfnonlbokddfaaDoorEvShelf
import Derived.Test.YtnfnonlbokddfaaDoorEvSum
namespace Go.Proofs
open Go.Shelf
def Tryd.sortP_ren : Go.Shelf.Ren := ⟨fun | 6 => 89 | 15 => 125 | 14 => 124 | 28 => 140 | 29 => 141 | 20 => 132 | 21 => 133 | 22 => 134 | 23 => 135 | 24 => 136 | 25 => 137 | 26 => 138 | 27 => 139 | 46 => 144 | 47 => 145 | 48 => 146 | 49 => 147 | 50 => 148 | 57 => 151 | n => n, fun | 22 => 22 | 24 => 57 | 25 => 138 | 3 => 3 | 39 => 174 | 0 => 0 | 53 => 192 | 55 => 119 | 4 => 4 | 46 => 186 | 45 => 185 | 50 => 64 | 5 => 5 | 9 => 9 | 66 => 196 | 70 => 200 | 76 => 202 | 77 => 162 | n => n, fun | n => n⟩
theorem Tryd.sortP : Go.Proofs.SlLaysF0.n6 Tryd.prog Tryd.sortP_ren := {
  mixed := by kernel_rfl
  f6 := ⟨Tryd.f89.name, by decide, Tryd.func89.trans (congrArg some (by kernel_rfl))⟩
  f14 := ⟨Tryd.f124.name, by decide, Tryd.func124.trans (congrArg some (by kernel_rfl))⟩
  f15 := Tryd.func125.trans (congrArg some (by kernel_rfl))
  f20 := ⟨Tryd.f132.name, by decide, Tryd.func132.trans (congrArg some (by kernel_rfl))⟩
  f21 := ⟨Tryd.f133.name, by decide, Tryd.func133.trans (congrArg some (by kernel_rfl))⟩
  f22 := ⟨Tryd.f134.name, by decide, Tryd.func134.trans (congrArg some (by kernel_rfl))⟩
  f23 := ⟨Tryd.f135.name, by decide, Tryd.func135.trans (congrArg some (by kernel_rfl))⟩
  f24 := ⟨Tryd.f136.name, by decide, Tryd.func136.trans (congrArg some (by kernel_rfl))⟩
  f25 := ⟨Tryd.f137.name, by decide, Tryd.func137.trans (congrArg some (by kernel_rfl))⟩
  f26 := ⟨Tryd.f138.name, by decide, Tryd.func138.trans (congrArg some (by kernel_rfl))⟩
  f27 := ⟨Tryd.f139.name, by decide, Tryd.func139.trans (congrArg some (by kernel_rfl))⟩
  f28 := Tryd.func140.trans (congrArg some (by kernel_rfl))
  f29 := Tryd.func141.trans (congrArg some (by kernel_rfl))
  f46 := ⟨Tryd.f144.name, by decide, Tryd.func144.trans (congrArg some (by kernel_rfl))⟩
  f47 := Tryd.func145.trans (congrArg some (by kernel_rfl))
  f48 := Tryd.func146.trans (congrArg some (by kernel_rfl))
  f49 := ⟨Tryd.f147.name, by decide, Tryd.func147.trans (congrArg some (by kernel_rfl))⟩
  f50 := ⟨Tryd.f148.name, by decide, Tryd.func148.trans (congrArg some (by kernel_rfl))⟩
  f57 := ⟨Tryd.f151.name, by decide, Tryd.func151.trans (congrArg some (by kernel_rfl))⟩
  t0 := Tryd.underlying0
  a0 := Tryd.isAgg0
  z0 := Tryd.sizeOf0
  v0 := Tryd.zeroValue0
  t3 := Tryd.underlying3
  a3 := Tryd.isAgg3
  z3 := Tryd.sizeOf3
  v3 := Tryd.zeroValue3
  t4 := Tryd.underlying4
  a4 := Tryd.isAgg4
  z4 := Tryd.sizeOf4
  v4 := Tryd.zeroValue4
  t5 := Tryd.underlying5
  a5 := Tryd.isAgg5
  z5 := Tryd.sizeOf5
  v5 := Tryd.zeroValue5
  t9 := Tryd.underlying9
  a9 := Tryd.isAgg9
  z9 := Tryd.sizeOf9
  v9 := Tryd.zeroValue9
  t22 := Tryd.underlying22
  a22 := Tryd.isAgg22
  z22 := Tryd.sizeOf22
  v22 := Tryd.zeroValue22
  t25 := Tryd.underlying138
  a25 := Tryd.isAgg138
  z25 := Tryd.sizeOf138
  v25 := Tryd.zeroValue138
  t39 := Tryd.underlying174
  a39 := Tryd.isAgg174
  z39 := Tryd.sizeOf174
  v39 := Tryd.zeroValue174
  t45 := Tryd.underlying185
  a45 := Tryd.isAgg185
  z45 := Tryd.sizeOf185
  v45 := Tryd.zeroValue185
  t46 := Tryd.underlying186
  a46 := Tryd.isAgg186
  z46 := Tryd.sizeOf186
  v46 := Tryd.zeroValue186
  t50 := Tryd.underlying64
  a50 := Tryd.isAgg64
  z50 := Tryd.sizeOf64
  v50 := Tryd.zeroValue64
  t53 := Tryd.underlying192
  a53 := Tryd.isAgg192
  z53 := Tryd.sizeOf192
  v53 := Tryd.zeroValue192
  t55 := Tryd.underlying119
  a55 := Tryd.isAgg119
  z55 := Tryd.sizeOf119
  v55 := Tryd.zeroValue119
  t66 := Tryd.underlying196
  a66 := Tryd.isAgg196
  z66 := Tryd.sizeOf196
  v66 := Tryd.zeroValue196
  t70 := Tryd.underlying200
  a70 := Tryd.isAgg200
  z70 := Tryd.sizeOf200
  v70 := Tryd.zeroValue200
  t76 := Tryd.underlying202
  a76 := Tryd.isAgg202
  z76 := Tryd.sizeOf202
  v76 := Tryd.zeroValue202
  t77 := Tryd.underlying162
  a77 := Tryd.isAgg162
  z77 := Tryd.sizeOf162
  v77 := Tryd.zeroValue162 }
end Go.Proofs
namespace Go.Proofs.YtnfnonlbokddfaaDoor
open Go.RowKit
open Evt (P3 Ev)

/-- The right pitches. -/
abbrev RP := { p : P3 // Evt.rgt p = true }
instance : Inhabited RP := ⟨⟨(0, 0, 4), by decide⟩⟩
def encR (x : RP) : List Value := encP x.1
def cpR (x y : RP) : Int := Evt.cp x.1 y.1
theorem ltR_iff (x y : RP) : ltOf cpR x y = true ↔ Evt.ky x.1 < Evt.ky y.1 := by
  unfold ltOf cpR; rw [decide_eq_true_iff]; exact Evt.cp_lt x.2 y.2
theorem ltR_no (x y : RP) : ltOf cpR x y = false ↔ ¬ Evt.ky x.1 < Evt.ky y.1 := by rw [← ltR_iff, Bool.not_eq_true]
theorem swoR : Go.Sort.SWO (ltOf cpR) where
  irrefl x := by rw [ltR_no]; omega
  trans x y z h1 h2 := by rw [ltR_iff] at *; omega
  ntrans x y z h1 h2 := by rw [ltR_no] at *; omega
theorem totR (x y : RP) (h1 : ltOf cpR x y = false) (h2 : ltOf cpR y x = false) : x = y := by
  rw [ltR_no] at *
  exact Subtype.ext (Evt.ky_inj x.2 y.2 (by omega))
theorem grownBy_sortedK {w : World} {g n : Nat} {os : Array Obj} (d : Array RP) : w.grownBy (sortWorldK encR 3 w g 0 n d os) (some g) := by
  refine ⟨rfl, rfl, rfl, ?_, fun k hk hne => ?_⟩
  · exact size_sortWorldK_c encR 3 w g 0 n d os
  · unfold sortWorldK
    rw [Go.Sort.heap_grow_old _ _ (by rw [Go.Sort.size_putRowK]; exact hk)]
    have : g ≠ k := fun e => hne (by rw [e])
    simp [Go.Sort.putRowK, Go.Sort.putRow, Go.Sort.mapBlock, Go.Sort.ahead, Array.getElem?_modify, this]
theorem below_sortedK {w0 w : World} {g n : Nat} {os : Array Obj} (d : Array RP) (hB : Below w0.heap.size w0 w) (hg : w0.heap.size ≤ g) : Below w0.heap.size w0 (sortWorldK encR 3 w g 0 n d os) :=
  hB.grown (grownBy_sortedK d) hB.size (fun j hj => by cases hj; exact hg)
theorem cmpR_lays {w0 w : World} (hR : Ready w0) (hB : Below w0.heap.size w0 w) {g : Nat} (hg : w0.heap.size ≤ g) (size : Nat) :
    CmpLays Tryd.prog 90 #[] encR 3 cpR g 0 size w := by
  intro m os dk _ x y
  have hx := (Pit.right_iff _ _ _).1 x.2
  have hy := (Pit.right_iff _ _ _).1 y.2
  have hc := compare_yesD x.1.1 x.1.2.1 x.1.2.2 y.1.1 y.1.2.1 y.1.2.2 (sortWorldK encR 3 w g 0 m dk os) (hR.below (below_sortedK dk hB hg)) hx hy
  refine Calls.mono (R := fun e w' => e = .returned (.int .i64 (orV (Pit.cmp (Pit.num x.1.1 x.1.2.1 x.1.2.2) (Pit.num y.1.1 y.1.2.1 y.1.2.2)) (Pit.cmp (Pit.lin x.1.1 x.1.2.2) (Pit.lin y.1.1 y.1.2.2)))) ∧ Bel (sortWorldK encR 3 w g 0 m dk os) w') hc ?_
  rintro e w' ⟨rfl, hb⟩
  refine ⟨?_, hb.grown⟩
  have : cpR x y = orV (Pit.cmp (Pit.num x.1.1 x.1.2.1 x.1.2.2) (Pit.num y.1.1 y.1.2.1 y.1.2.2)) (Pit.cmp (Pit.lin x.1.1 x.1.2.2) (Pit.lin y.1.1 y.1.2.2)) := by
    unfold cpR Evt.cp Pit.cmpP
    rw [x.2, y.2]
    rfl
  rw [this]
def toR : (l : List P3) → l.all Evt.rgt = true → List RP
  | [], _ => []
  | p :: l, h => ⟨p, by rw [List.all_cons, Bool.and_eq_true] at h; exact h.1⟩ :: toR l (by rw [List.all_cons, Bool.and_eq_true] at h; exact h.2)
theorem toR_map : ∀ (l : List P3) (h : l.all Evt.rgt = true), (toR l h).map Subtype.val = l
  | [], _ => rfl
  | p :: l, h => by rw [toR, List.map_cons, toR_map l]
theorem encP_len (x : P3) : (encP x).length = 3 := rfl
/-- A list of right pitches in a block of the call's own, sorted. -/
theorem sortP_any (g cap : Nat) (l : List P3) (hr : l.all Evt.rgt = true) (w0 w : World) (hR : Ready w0) (hB : Below w0.heap.size w0 w) (hg : w0.heap.size ≤ g) (hgl : g < w.heap.size) (hl : l.length < 4611686018427387904)
    (hc : ∀ (i : Nat) (x : P3), l[i]? = some x → ∀ (j : Nat) (u : Value), (encP x)[j]? = some u → w.cell? ⟨g, i * 3 + j, none⟩ = some u ∧ w.frozen? ⟨g, i * 3 + j, none⟩ = false) :
    Calls Tryd.prog 89 #[.slice (some ⟨g, 0, none⟩) l.length cap, .func (.func 90) #[] #[]] w fun e w' =>
      e = .returned (.tuple #[]) ∧ ∃ S : List P3, S.Perm l ∧ S.Pairwise (fun p q => Evt.ky p ≤ Evt.ky q) ∧ w.grownBy w' (some g) ∧ ∀ (i : Nat) (x : P3), S[i]? = some x → ∀ (j : Nat) (u : Value), (encP x)[j]? = some u → w'.cell? ⟨g, i * 3 + j, none⟩ = some u := by
  have eg : ∀ args w, (callFunc 90 args).run Tryd.prog w = .ok (.enter 90 args) w := enters_of Tryd.func90 (by kernel_rfl) rfl
  have hlen : (toR l hr).length = l.length := by have := congrArg List.length (toR_map l hr); simpa using this
  have hat : ∀ i, i < l.length → (toR l hr).toArray[i]!.1 = l[i]! := by
    intro i hi
    have h2 : ((toR l hr).map Subtype.val)[i]? = l[i]? := by rw [toR_map]
    rw [List.getElem?_map] at h2
    rw [getElem!_pos _ i (by simpa [hlen] using hi), getElem!_pos l i hi]
    rw [List.getElem?_eq_getElem hi, List.getElem?_eq_getElem (by omega)] at h2
    simpa using h2
  have hH : Go.Sort.HoldsK encR 3 w g 0 (toR l hr).toArray := by
    intro t ht
    rw [Go.Sort.size_flatK] at ht
    have hs : (toR l hr).toArray.size = l.length := by simpa using hlen
    rw [hs] at ht
    have hi : t / 3 < l.length := by omega
    rw [Go.Sort.get_flatK _ _ _ _ (by rw [hs]; exact ht)]
    have h3 : t % 3 < (encR (toR l hr).toArray[t / 3]!).length := by show t % 3 < (encP _).length; rw [encP_len]; omega
    have h4 := hc (t / 3) l[t / 3]! (by rw [getElem!_pos l _ hi]; exact List.getElem?_eq_getElem hi) (t % 3) ((encR (toR l hr).toArray[t / 3]!)[t % 3]!) (by
      rw [getElem!_pos (encR (toR l hr).toArray[t / 3]!) (t % 3) h3, ← hat _ hi]
      exact List.getElem?_eq_getElem h3)
    have e : 0 + t = t / 3 * 3 + t % 3 := by omega
    rw [e]
    exact h4
  have hcon := AnyQ.slices_SortFunc_total Tryd.sortP 3 Tryd.isAgg57 Tryd.sizeOf57 encR (fun _ => rfl) (fun x v hv => by simp [encR, encP] at hv; rcases hv with rfl | rfl | rfl <;> rfl) cpR swoR 90 #[] g 0 cap (toR l hr).toArray w eg (cmpR_lays hR hB hg _) hH hgl (by simpa [hlen] using hl) totR
  change Calls Tryd.prog 89 _ _ _ at hcon
  have hs : (toR l hr).toArray.size = l.length := by simpa using hlen
  rw [hs] at hcon
  refine hcon.mono ?_
  rintro e w' ⟨rfl, n, os, rfl⟩
  refine ⟨rfl, ((toR l hr).mergeSort fun x y => !ltOf cpR y x).map Subtype.val, ?_, ?_, grownBy_sortedK _, ?_⟩
  · have := (List.mergeSort_perm (toR l hr) fun x y => !ltOf cpR y x).map Subtype.val
    rwa [toR_map] at this
  · rw [List.pairwise_map]
    have hp := List.pairwise_mergeSort (le := fun x y : RP => !ltOf cpR y x) (by
      intro a b c h1 h2
      simp only [Bool.not_eq_true', ltR_no] at *
      omega) (by
      intro a b
      cases h1 : ltOf cpR b a
      · rfl
      · cases h2 : ltOf cpR a b
        · rfl
        · rw [ltR_iff] at h1 h2; omega) (toR l hr)
    refine hp.imp ?_
    intro a b h
    simp only [Bool.not_eq_true', ltR_no] at h
    omega
  · intro i x hx j u hu
    have hi : i < ((toR l hr).mergeSort fun x y => !ltOf cpR y x).length := by
      have := (List.getElem?_eq_some_iff.1 hx).1; simpa using this
    have hsz : ((toR l hr).mergeSort fun x y => !ltOf cpR y x).toArray.size = (toR l hr).toArray.size := by simp
    have hk := holdsK_sortWorldK_c encR 3 w g 0 (toR l hr).toArray ((toR l hr).mergeSort fun x y => !ltOf cpR y x).toArray n os hH hgl hsz
    have hj : j < 3 := by have := (List.getElem?_eq_some_iff.1 hu).1; rwa [encP_len] at this
    have hcell := (hk.cell (i := i) (c := j) (by simpa using hi) hj).1
    have ex : ((toR l hr).mergeSort fun x y => !ltOf cpR y x).toArray[i]!.1 = x := by
      rw [List.getElem?_map, List.getElem?_eq_getElem hi] at hx
      rw [getElem!_pos _ i (by simpa using hi)]
      simpa using hx
    have eu : (encR ((toR l hr).mergeSort fun x y => !ltOf cpR y x).toArray[i]!)[j]! = u := by
      show (encP _)[j]! = u
      rw [ex, getElem!_pos (encP x) j (by rw [encP_len]; exact hj)]
      rw [List.getElem?_eq_getElem (by rw [encP_len]; exact hj)] at hu
      exact Option.some.inj hu
    rw [Nat.zero_add] at hcell
    rw [eu] at hcell
    exact hcell
/-- No pitch: nothing turns. -/
theorem sortP_none (p : Option Addr) (cap : Nat) (fv : Value) (w : World) :
    Calls Tryd.prog 89 #[.slice p 0 cap, fv] w fun e w' => e = .returned (.tuple #[]) ∧ w = w' :=
  (AnyF.slices_SortFunc_none { Tryd.sortP with } p cap fv w).mono fun _ _ ⟨he, hw⟩ => ⟨he, hw.symm⟩
end Go.Proofs.YtnfnonlbokddfaaDoor
