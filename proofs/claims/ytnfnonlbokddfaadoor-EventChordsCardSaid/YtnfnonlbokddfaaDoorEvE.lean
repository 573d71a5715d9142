/-
  Rows of the call's own; the contracts of event's fresh and lifted.
-/
import Derived.Test.YtnfnonlbokddfaaDoorEvD
import Derived.OwnWalk
namespace Go.Proofs.YtnfnonlbokddfaaDoor
open Go.RowKit

open Evt (P3 Ev)
theorem flat_len {α : Type} {enc : α → List Value} {k : Nat} (hk : ∀ x, (enc x).length = k) : ∀ l : List α, (l.flatMap enc).length = l.length * k
  | [] => by simp
  | x :: l => by rw [List.flatMap_cons, List.length_append, hk, flat_len hk l, List.length_cons, Nat.add_mul, Nat.one_mul, Nat.add_comm]
theorem flat_at {α : Type} {enc : α → List Value} {k : Nat} (hk : ∀ x, (enc x).length = k) : ∀ (l : List α) (i : Nat) (x : α) (j : Nat), l[i]? = some x → j < k → (l.flatMap enc)[i * k + j]? = (enc x)[j]?
  | [], i, x, j, h, _ => by simp at h
  | y :: l, 0, x, j, h, hj => by
    simp at h; subst h
    rw [List.flatMap_cons, Nat.zero_mul, Nat.zero_add, List.getElem?_append_left (by rw [hk]; exact hj)]
  | y :: l, i + 1, x, j, h, hj => by
    rw [List.flatMap_cons, List.getElem?_append_right (by rw [hk, Nat.add_mul, Nat.one_mul]; omega), hk, show (i + 1) * k + j - k = i * k + j by rw [Nat.add_mul, Nat.one_mul]; omega]
    exact flat_at hk l i x j (by simpa using h) hj
theorem flat_inv {α : Type} {enc : α → List Value} {k : Nat} (hk : ∀ x, (enc x).length = k) (h0 : 0 < k) (l : List α) {t : Nat} {u : Value} (h : (l.flatMap enc)[t]? = some u) : ∃ x, l[t / k]? = some x ∧ (enc x)[t % k]? = some u := by
  have ht : t < l.length * k := by rw [← flat_len hk l]; exact (List.getElem?_eq_some_iff.1 h).1
  have hi : t / k < l.length := (Nat.div_lt_iff_lt_mul h0).2 ht
  refine ⟨l[t / k], List.getElem?_eq_getElem hi, ?_⟩
  rw [← flat_at hk l (t / k) _ (t % k) (List.getElem?_eq_getElem hi) (Nat.mod_lt _ h0), Nat.div_add_mod' t k]
  exact h
/-- What append wants of a list that is appended. -/
theorem Sl.news {α : Type} {enc : α → List Value} {k : Nat} (hk : ∀ x, (enc x).length = k) (h0 : 0 < k) {W : World} {ad : Addr} {n c : Nat} {l : List α} (h : Sl k enc W (.slice (some ad) n c) l) (j : Nat) (u : Value) (hj : (l.flatMap enc)[j]? = some u) : W.cell? (ad.add j) = some u := by
  obtain ⟨p, cap, e, _, _, hx⟩ := h
  cases e
  obtain ⟨x, h1, h2⟩ := flat_inv hk h0 l hj
  obtain ⟨b, o, e, hc⟩ := hx _ x h1
  cases e
  have := hc _ u h2
  rw [show o + j / k * k + j % k = o + j by have := Nat.div_add_mod' j k; omega] at this
  rw [Addr.add_lit]
  exact this
/-- A row of the call's own is a list in memory. -/
theorem row_sl {α : Type} {enc : α → List Value} {k : Nat} (hk : ∀ x, (enc x).length = k) {W : World} {base : Nat} {e : TypeId} {v : Value} {n : Nat} {l : List α} (hn : n = l.length) (hb : l.length ≤ 140737488355328) (h : W.ownsRow base e k v n (l.flatMap enc)) : Sl k enc W v l := by
  subst hn
  have hlt : ∀ g, v.ownBlock = some g → ∀ j u, (l.flatMap enc)[j]? = some u → W.cell? ((⟨g, 0, none⟩ : Addr).add j) = some u := fun g hg => h.cells hg
  rcases h.2 with ⟨rfl, h0⟩ | ⟨g, cap, cur, rfl, _, _, hc, _, _, _⟩
  · have := List.eq_nil_of_length_eq_zero h0
    subst this
    exact Sl.none _ _ _
  · refine ⟨_, cap, rfl, hb, hc, fun i x hx => ⟨g, 0, rfl, fun j u hu => ?_⟩⟩
    have hj : j < k := by rw [← hk x]; exact (List.getElem?_eq_some_iff.1 hu).1
    have := hlt g rfl (i * k + j) u ((flat_at hk l i x j hx hj).trans hu)
    rw [Nat.zero_add]
    rw [Addr.add_lit] at this
    simpa using this
/-- A slice that lies in a block from base on, or is nil. -/
def Own (base : Nat) (v : Value) : Prop := ∀ g, v.ownBlock = some g → base ≤ g
theorem Own.nil (base : Nat) (n c : Nat) : Own base (.slice none n c) := fun g h => by cases h
theorem own_row {W : World} {base : Nat} {e : TypeId} {k n : Nat} {v : Value} {xs : List Value} (h : W.ownsRow base e k v n xs) : Own base v := fun g hg => (h.lt g hg).1
theorem Own.mono {b b' : Nat} {v : Value} (h : Own b v) (hb : b' ≤ b) : Own b' v := fun g hg => Nat.le_trans hb (h g hg)
theorem Sl.set {α : Type} {k : Nat} {enc : α → List Value} {W : World} {v : Value} {l : List α} {base B o : Nat} {x : Value} (h : Sl k enc W v l) (ho : Own base v) (hB : B < base) : Sl k enc (W.setCell ⟨B, o, .none⟩ x) v l := by
  obtain ⟨p, cap, rfl, hl, hc, hx⟩ := h
  refine ⟨p, cap, rfl, hl, hc, fun i y hi => ?_⟩
  obtain ⟨b, q, e, c⟩ := hx i y hi
  subst e
  refine ⟨b, q, rfl, fun j u hu => ?_⟩
  have := ho b rfl
  exact set_far (by omega) (c j u hu)
theorem ones_of {α : Type} {enc : α → List Value} (h : ∀ x, ∀ u ∈ enc x, u.oneCell' = true) (l : List α) : ∀ u ∈ l.flatMap enc, u.oneCell' = true := by
  intro u hu
  obtain ⟨x, _, hx⟩ := List.mem_flatMap.1 hu
  exact h x u hx
theorem oneI : ∀ x, ∀ u ∈ encI x, u.oneCell' = true := by intro x u hu; simp [encI] at hu; subst hu; rfl
theorem oneB : ∀ x, ∀ u ∈ encB x, u.oneCell' = true := by intro x u hu; simp [encB] at hu; subst hu; rfl
theorem oneP : ∀ x, ∀ u ∈ encP x, u.oneCell' = true := by intro x u hu; simp [encP] at hu; rcases hu with rfl | rfl | rfl <;> rfl
theorem lenI : ∀ x, (encI x).length = 1 := fun _ => rfl
theorem lenB : ∀ x, (encB x).length = 1 := fun _ => rfl
theorem lenP : ∀ x, (encP x).length = 3 := fun _ => rfl
theorem infoI : (Tryd.prog.info? 3).map (fun i => (i.zero, i.size, i.bytes)) = some (some (.int .i64 0), 1, 8) := by kernel_rfl
theorem infoB : (Tryd.prog.info? 4).map (fun i => (i.zero, i.size, i.bytes)) = some (some (.bool false), 1, 1) := by kernel_rfl
theorem infoP : (Tryd.prog.info? 57).map (fun i => (i.zero, i.size, i.bytes)) = some (some (.agg #[.int .i64 0, .int .i64 0, .int .i64 0]), 3, 24) := by kernel_rfl

set_option maxRecDepth 100000 in
set_option maxHeartbeats 4000000 in
theorem freshB_any (v : Value) (l : List Bool) (w : World) (h : Bools w v l) (hl : l.length ≤ 1000000) :
    Calls Tryd.prog 40 #[v] w fun ed w' => (∃ v', ed = .returned v' ∧ Bools w' v' l ∧ Own w.heap.size v') ∧ Below w.heap.size w w' := by
  obtain ⟨i0, hi, hz0, hz1, hz2⟩ := info_parts infoB
  have H := Lib.hid h
  obtain ⟨p, c, rfl, _⟩ := sl_shape h
  clear h
  cases p with
  | none =>
    have hn : l = [] := by
      cases l with
      | nil => rfl
      | cons x l => obtain ⟨_, _, e, _, _, hx⟩ := H.out; cases e; obtain ⟨_, _, e, _⟩ := hx 0 x rfl; cases e
    subst hn
    go_enter Tryd.func40, Tryd.ntmps40
    go_wp2
    go_ret
    exact ⟨⟨_, rfl, Sl.none _ _ _, Own.nil _ _ _⟩, Below.refl _ _⟩
  | some ad =>
    go_enter Tryd.func40, Tryd.ntmps40
    go_wp2_with (at_builtin; refine wpList_append_own _ rfl _ _ 23 rfl w.heap.size 4 i0 (.bool false) 1 1 Tryd.underlying23 hi hz0 hz1 hz2 rfl (by decide) _ _ _ rfl (World.ownsRow_nil _ _ _ _) ad l.length c (l.flatMap encB) rfl (flat_len lenB l) (H.out.news lenB (by decide)) (ones_of oneB l) (by unfold maxLen; omega) (by omega) (Nat.le_refl _) ?_; intro v' w1 hown hgrow _)
    have hown' : w1.ownsRow w.heap.size 4 1 v' l.length (l.flatMap encB) := by simpa using hown
    have HP := Lib.hid (row_sl lenB rfl (by omega) hown')
    have HO := Lib.hid (own_row hown')
    have HB := Lib.hid ((Below.refl w.heap.size w).grown hgrow (Nat.le_refl _) (fun k hk => by cases hk))
    clear hown hown' hgrow
    go_wp2
    go_ret
    exact ⟨⟨_, rfl, HP.out, HO.out⟩, HB.out⟩

set_option maxRecDepth 100000 in
set_option maxHeartbeats 4000000 in
theorem freshI_any (v : Value) (l : List Int) (w : World) (h : Ints w v l) (hl : l.length ≤ 1000000) :
    Calls Tryd.prog 41 #[v] w fun ed w' => (∃ v', ed = .returned v' ∧ Ints w' v' l ∧ Own w.heap.size v') ∧ Below w.heap.size w w' := by
  obtain ⟨i0, hi, hz0, hz1, hz2⟩ := info_parts infoI
  have H := Lib.hid h
  obtain ⟨p, c, rfl, _⟩ := sl_shape h
  clear h
  cases p with
  | none =>
    have hn : l = [] := by
      cases l with
      | nil => rfl
      | cons x l => obtain ⟨_, _, e, _, _, hx⟩ := H.out; cases e; obtain ⟨_, _, e, _⟩ := hx 0 x rfl; cases e
    subst hn
    go_enter Tryd.func41, Tryd.ntmps41
    go_wp2
    go_ret
    exact ⟨⟨_, rfl, Sl.none _ _ _, Own.nil _ _ _⟩, Below.refl _ _⟩
  | some ad =>
    go_enter Tryd.func41, Tryd.ntmps41
    go_wp2_with (at_builtin; refine wpList_append_own _ rfl _ _ 26 rfl w.heap.size 3 i0 (.int .i64 0) 1 8 Tryd.underlying26 hi hz0 hz1 hz2 rfl (by decide) _ _ _ rfl (World.ownsRow_nil _ _ _ _) ad l.length c (l.flatMap encI) rfl (flat_len lenI l) (H.out.news lenI (by decide)) (ones_of oneI l) (by unfold maxLen; omega) (by omega) (Nat.le_refl _) ?_; intro v' w1 hown hgrow _)
    have hown' : w1.ownsRow w.heap.size 3 1 v' l.length (l.flatMap encI) := by simpa using hown
    have HP := Lib.hid (row_sl lenI rfl (by omega) hown')
    have HO := Lib.hid (own_row hown')
    have HB := Lib.hid ((Below.refl w.heap.size w).grown hgrow (Nat.le_refl _) (fun k hk => by cases hk))
    clear hown hown' hgrow
    go_wp2
    go_ret
    exact ⟨⟨_, rfl, HP.out, HO.out⟩, HB.out⟩

theorem own_later {w w' : World} {base : Nat} {e : TypeId} {size : Nat} {v : Value} {n : Nat} {xs : List Value} (h : w.ownsRow base e size v n xs) (hb : Below w.heap.size w w') : w'.ownsRow base e size v n xs :=
  h.kept (row := none) ⟨hb.os, hb.tape, hb.output, hb.size, fun k hk _ => hb.block k hk⟩ (by cases hv : v.ownBlock <;> simp)
theorem own_set {w : World} {base B o : Nat} {x : Value} {e : TypeId} {size : Nat} {v : Value} {n : Nat} {xs : List Value} (h : w.ownsRow base e size v n xs) (hB : B < base) : (w.setCell ⟨B, o, none⟩ x).ownsRow base e size v n xs :=
  h.kept (row := some B) ⟨rfl, rfl, rfl, by simp [World.setCell], fun k _ hk => Below.heap_setCell _ _ _ _ (fun e => hk (by rw [e]))⟩ (.inr (fun e => by have := (h.lt B e).1; omega))
theorem cells3_new (w : World) (t : TypeId) (x y z : Value) {n : Nat} (hn : w.heap.size = n) : ∀ (jj : Nat) (u : Value), [x, y, z][jj]? = some u → (w.alloc (.cells #[x, y, z] t)).cell? (Addr.add ⟨n, 0, none⟩ jj) = some u := by
  subst hn
  intro jj u hu
  rcases jj with _ | _ | _ | jj
  · simp at hu; subst hu; simp [Addr.add]
  · simp at hu; subst hu; simp [Addr.add]
  · simp at hu; subst hu; simp [Addr.add]
  · simp at hu
theorem cells1_new (w : World) (t : TypeId) (x : Value) {n : Nat} (hn : w.heap.size = n) : ∀ (jj : Nat) (u : Value), [x][jj]? = some u → (w.alloc (.cells #[x] t)).cell? (Addr.add ⟨n, 0, none⟩ jj) = some u := by
  subst hn
  intro jj u hu
  rcases jj with _ | jj
  · simp at hu; subst hu; simp [Addr.add]
  · simp at hu
theorem up_is {S H : Int} {p : P3} {r : Option P3} (h : Evt.upP S H p = r) (w : World) (hR : Ready w) : Calls Tryd.prog 79 #[pt p.1 p.2.1 p.2.2, iv S H] w fun ed w' => ed = .returned (upV r) ∧ Below w.heap.size w w' := by subst h; exact up_any _ _ _ _ _ w hR
def LiftRel (S H : Int) (l : List P3) (w : World) (v i : Value) (wr : World) : Prop :=
  ∃ (k : Nat) (m : List P3), k ≤ l.length ∧ i = .int .i64 (k : Int) ∧ Evt.lift S H (l.take k) = some m ∧ m.length = k ∧ wr.ownsRow (w.heap.size + 1) 57 3 v k (m.flatMap encP) ∧ wr.cell? ⟨w.heap.size, 0, none⟩ = some (.int .i64 S) ∧ wr.cell? ⟨w.heap.size, 1, none⟩ = some (.int .i64 H) ∧ Below w.heap.size w wr
/-- What lifted answers. -/
def LiftPost (S H : Int) (l : List P3) (w : World) (ed : Ending) (w' : World) : Prop :=
  (∀ m, Evt.lift S H l = some m → ∃ v, ed = .returned (.tuple #[v, .int .i64 0]) ∧ Pits w' v m ∧ Own w.heap.size v) ∧ (Evt.lift S H l = none → ed = .returned (.tuple #[.slice none 0 0, .int .i64 20])) ∧ Below w.heap.size w w'

set_option maxRecDepth 100000 in
set_option maxHeartbeats 4000000 in
theorem lifted_any (S H : Int) (v : Value) (l : List P3) (w : World) (h : Pits w v l) (hl : l.length ≤ 1000000) (hR : Ready w) :
    Calls Tryd.prog 39 #[v, iv S H] w (LiftPost S H l w) := by
  obtain ⟨i0, hi, hz0, hz1, hz2⟩ := info_parts infoP
  have HP := Lib.hid h
  obtain ⟨p0, c0, rfl, _⟩ := sl_shape h
  clear h
  go_enter Tryd.func39, Tryd.ntmps39
  go_wp2
  go_loopw [6, 13] (fun v i wr => LiftRel S H l w v i wr) (fun _ i _ => l.length - (intOf i).toNat)
  case atStart => exact ⟨0, [], Nat.zero_le _, rfl, rfl, rfl, World.ownsRow_nil _ _ _ _, by go_simp, by go_simp, (Below.refl _ _).alloc (Nat.le_refl _) _⟩
  case round =>
    obtain ⟨k, m, hk, rfl, hm, hml, hown, e0, e1, hB⟩ := hrel
    have HM := Lib.hid hm
    have HML := Lib.hid hml
    have HO := Lib.hid hown
    clear hm hml hown
    by_cases hlt : k < l.length
    · obtain ⟨p, hp⟩ : ∃ p, l[k]? = some p := ⟨_, List.getElem?_eq_getElem hlt⟩
      obtain ⟨b1, o1, f1, hcx, hcx', hcx''⟩ := pits_at HP.out hp
      subst f1
      replace hcx := cell_later hB hcx
      replace hcx' := cell_later hB hcx'
      replace hcx'' := cell_later hB hcx''
      have HX := Lib.hid hp
      have hlt' : (k : Int) < (l.length : Int) := by omega
      have zb : w.heap.size < wr.heap.size := World.block_lt_of_cell? _ _ e0
      clear hp
      obtain ⟨x0, x1, x2⟩ := p
      dsimp only at hcx hcx' hcx''
      cases hu : Evt.upP S H (x0, x1, x2) with
      | none =>
        have HU := Lib.hid hu
        clear hu
        go_wp2_with fail
        refine ((up_is (p := (x0, x1, x2)) HU.out _ ((hR.below hB).alloc _))).mono ?_
        rintro e w1 ⟨rfl, hb⟩
        unfold upV
        dsimp only
        go_wp2
        go_ret2
        exact ⟨(fun m' hm' => by rw [Evt.lift_take_none HX.out HU.out] at hm'; cases hm'), fun _ => rfl, alloc_below (below_two (alloc_below hB) hb)⟩
      | some q =>
        obtain ⟨y0, y1, y2⟩ := q
        have HU := Lib.hid hu
        clear hu
        go_wp2_with fail
        refine ((up_is (p := (x0, x1, x2)) HU.out _ ((hR.below hB).alloc _))).mono ?_
        rintro e w1 ⟨rfl, hb⟩
        unfold upV
        dsimp only
        have hB1 : Below w.heap.size w w1 := below_two (alloc_below hB) hb
        have e0' : w1.cell? ⟨w.heap.size, 0, none⟩ = some (.int .i64 S) := cell_later hb (alloc_cell e0)
        have e1' : w1.cell? ⟨w.heap.size, 1, none⟩ = some (.int .i64 H) := cell_later hb (alloc_cell e1)
        have HO1 := Lib.hid (own_later (HO.out.alloc _) hb)
        have zb1 : w.heap.size < w1.heap.size := World.block_lt_of_cell? _ _ e0'
        clear e0 e1 zb hcx hcx' hcx'' hb
        go_wp2_with (first
          | (at_builtin; refine wpList_append_own _ rfl _ _ 22 rfl (w.heap.size + 1) 57 i0 (.agg #[.int .i64 0, .int .i64 0, .int .i64 0]) 3 24 Tryd.underlying22 hi hz0 hz1 hz2 rfl (by decide) _ _ _ rfl ((HO1.out.alloc _).alloc _) ⟨w1.heap.size + 1, 0, none⟩ 1 1 [.int .i64 y0, .int .i64 y1, .int .i64 y2] rfl rfl (cells3_new _ _ _ _ _ (by simp)) (by intro u hu; simp at hu; rcases hu with rfl | rfl | rfl <;> rfl) (by unfold maxLen; omega) (by omega) (by simp; omega) ?_; intro v' w2 hown2 hgrow _)
          | fail)
        have hb2 : Below (w.heap.size + 1) ((w1.alloc (.cells #[.int .i64 y0, .int .i64 y1, .int .i64 y2] 57)).alloc (.cells #[.int .i64 y0, .int .i64 y1, .int .i64 y2] 57)) w2 := (Below.refl _ _).grown hgrow (by simp; omega) (fun j hj => (HO1.out.lt j hj).1)
        have HE0 := Lib.hid ((hb2.cell (p := ⟨w.heap.size, 0, none⟩) (by simp)).trans (alloc_cell (alloc_cell e0')))
        have HE1 := Lib.hid ((hb2.cell (p := ⟨w.heap.size, 1, none⟩) (by simp)).trans (alloc_cell (alloc_cell e1')))
        have HB2 : Hid (Below w.heap.size w w2) := Lib.hid ((alloc_below (alloc_below hB1)).trans (hb2.mono (by omega)))
        have HN : Hid (w2.ownsRow (w.heap.size + 1) 57 3 v' (k + 1) ((m ++ [(y0, y1, y2)]).flatMap encP)) := Lib.hid (by rw [List.flatMap_append]; simpa [encP] using hown2)
        clear hb2 e0' e1' hB1 hown2 hgrow HO1 zb1
        go_wp2
        go_roundw
        case rel => exact ⟨k + 1, m ++ [(y0, y1, y2)], by omega, by go_num, Evt.lift_take HX.out HM.out HU.out, by rw [List.length_append, HML.out]; rfl, HN.out, HE0.out, HE1.out, HB2.out⟩
        case measure => simp [intOf]; omega
    · obtain rfl : k = l.length := by omega
      have hm : Evt.lift S H l = some m := by have := HM.out; rwa [List.take_length] at this
      have HM' := Lib.hid hm
      have HV := Lib.hid (row_sl lenP HML.out.symm (by have := HML.out; omega) HO.out)
      clear hm
      go_wp2
      go_ret2
      exact ⟨(fun m' hm' => by rw [HM'.out] at hm'; cases hm'; exact ⟨_, rfl, HV.out, (own_row HO.out).mono (by omega)⟩), (fun hn => by rw [HM'.out] at hn; cases hn), hB⟩
theorem lifted_some {S H : Int} {v : Value} {l m : List P3} (hm : Evt.lift S H l = some m) (w : World) (h : Pits w v l) (hl : l.length ≤ 1000000) (hR : Ready w) :
    Calls Tryd.prog 39 #[v, iv S H] w fun ed w' => (∃ v', ed = .returned (.tuple #[v', .int .i64 0]) ∧ Pits w' v' m ∧ Own w.heap.size v') ∧ Below w.heap.size w w' :=
  (lifted_any S H v l w h hl hR).mono fun _ _ ⟨a, _, b⟩ => ⟨a m hm, b⟩
theorem lifted_none {S H : Int} {v : Value} {l : List P3} (hm : Evt.lift S H l = none) (w : World) (h : Pits w v l) (hl : l.length ≤ 1000000) (hR : Ready w) :
    Calls Tryd.prog 39 #[v, iv S H] w fun ed w' => ed = .returned (.tuple #[.slice none 0 0, .int .i64 20]) ∧ Below w.heap.size w w' :=
  (lifted_any S H v l w h hl hR).mono fun _ _ ⟨_, a, b⟩ => ⟨a hm, b⟩
end Go.Proofs.YtnfnonlbokddfaaDoor
