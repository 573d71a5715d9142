/-
  EventChordUp answers true: the law's walk.
-/
import Derived.Test.YtoiankbopjaamaaDoorEvLaw
namespace Go.Proofs.YtoiankbopjaamaaDoor
open Go.RowKit
open Evt (P3 Ev)

theorem ups_append (S H : Int) : ∀ (l m : List Ev), Evt.ups S H (l ++ m) = (Evt.ups S H l).bind fun a => (Evt.ups S H m).map fun b => a ++ b
  | [], m => by simp [Evt.ups]
  | x :: l, m => by
    rw [List.cons_append, Evt.ups, Evt.ups, ups_append S H l m]
    by_cases h : (Evt.upE S H x).2 = 0
    · rw [if_pos h, if_pos h]
      cases Evt.ups S H l with
      | none => rfl
      | some a => cases Evt.ups S H m <;> rfl
    · rw [if_neg h, if_neg h]; rfl
theorem ups_take {S H : Int} {ys : List EM} {k : Nat} {y : EM} {m : List Ev} {Z : Ev} (hy : ys[k]? = some y) (hm : Evt.ups S H ((ys.take k).map Prod.fst) = some m) (hz : Evt.upE S H y.1 = (Z, 0)) : Evt.ups S H ((ys.take (k + 1)).map Prod.fst) = some (m ++ [Z]) := by
  rw [take_succ_at hy, List.map_append, ups_append, hm]
  simp [Evt.ups, hz]
theorem infoE : (Tryd.prog.info? 28).map (fun i => (i.zero, i.size, i.bytes)) = some (some (.agg #[.int .i64 0, .slice none 0 0, .slice none 0 0, .int .i64 0, .int .i64 0, .int .i64 0, .int .i64 0, .slice none 0 0, .string ⟨#[]⟩]), 9, 128) := by kernel_rfl
theorem oneE {W : World} {zs : List EM} (h : ∀ z ∈ zs, EvR W z.2.1 z.2.2.1 z.2.2.2 z.1) : ∀ u ∈ zs.flatMap encE, u.oneCell' = true := by
  intro u hu
  obtain ⟨z, hz, hu⟩ := List.mem_flatMap.1 hu
  have h1 := h z hz
  obtain ⟨_, _, e1, _⟩ := sl_shape h1.ps
  obtain ⟨_, _, e2, _⟩ := sl_shape h1.ts
  obtain ⟨_, _, e3, _⟩ := sl_shape h1.ms
  simp only [encE, e1, e2, e3, List.mem_cons, List.not_mem_nil, or_false] at hu
  rcases hu with rfl | rfl | rfl | rfl | rfl | rfl | rfl | rfl | rfl <;> rfl
theorem cells9_new (w : World) (t : TypeId) (z : EM) {n : Nat} (hn : w.heap.size = n) : ∀ (jj : Nat) (u : Value), (encE z)[jj]? = some u → (w.alloc (.cells (encE z).toArray t)).cell? (Addr.add ⟨n, 0, none⟩ jj) = some u := by
  subst hn
  intro jj u hu
  rw [Addr.add_lit, Nat.zero_add, cell_new, List.getElem?_toArray]
  exact hu
theorem put9_far {w : World} {B b o : Nat} {x0 x1 x2 x3 x4 x5 x6 x7 x8 v : Value} (hc : w.cell? ⟨b, o, none⟩ = some v) (h : b ≠ B) : (put9 w B x0 x1 x2 x3 x4 x5 x6 x7 x8).cell? ⟨b, o, none⟩ = some v :=
  set_far h (set_far h (set_far h (set_far h (set_far h (set_far h (set_far h (set_far h (set_far h hc))))))))
theorem Sl.block {α : Type} {k : Nat} {enc : α → List Value} {W : World} {v : Value} {l : List α} (h : Sl k enc W v l) (h0 : ∀ x, (enc x).length ≠ 0) (hl : l ≠ []) : ∃ b, v.ownBlock = some b ∧ b < W.heap.size := by
  obtain ⟨p, c, rfl, _, _, hc⟩ := h
  cases l with
  | nil => exact absurd rfl hl
  | cons x l =>
    obtain ⟨b, o, rfl, hx⟩ := hc 0 x rfl
    cases he : enc x with
    | nil => exact absurd (by rw [he]; rfl) (h0 x)
    | cons u us => exact ⟨b, rfl, World.block_lt_of_cell? _ _ (hx 0 u (by rw [he]; rfl))⟩
theorem Sl.grown {α : Type} {k : Nat} {enc : α → List Value} {W W' : World} {g : Option Nat} {v : Value} {l : List α} (h : Sl k enc W v l) (hg : W.grownBy W' g) (ha : l ≠ [] → v.ownBlock ≠ g) : Sl k enc W' v l := by
  obtain ⟨p, c, rfl, h1, h2, hc⟩ := h
  refine ⟨p, c, rfl, h1, h2, fun i x hi => ?_⟩
  obtain ⟨b, o, rfl, hx⟩ := hc i x hi
  have hl : l ≠ [] := fun e => by rw [e] at hi; simp at hi
  exact ⟨b, o, rfl, fun j u hu => hg.cell (hx j u hu) (ha hl)⟩
/-- The lists of an event lie in no block of that row. -/
def Apart (g : Option Nat) (z : EM) : Prop := (z.1.ps ≠ [] → z.2.1.ownBlock ≠ g) ∧ (z.1.ts ≠ [] → z.2.2.1.ownBlock ≠ g) ∧ (z.1.ms ≠ [] → z.2.2.2.ownBlock ≠ g)
theorem EvR.grown {W W' : World} {g : Option Nat} {z : EM} (h : EvR W z.2.1 z.2.2.1 z.2.2.2 z.1) (hg : W.grownBy W' g) (ha : Apart g z) : EvR W' z.2.1 z.2.2.1 z.2.2.2 z.1 := ⟨h.ps.grown hg ha.1, h.ts.grown hg ha.2.1, h.ms.grown hg ha.2.2, h.sz⟩
theorem Apart.new {W : World} {n : Nat} {z : EM} (h : EvR W z.2.1 z.2.2.1 z.2.2.2 z.1) (hn : W.heap.size ≤ n) : Apart (some n) z := by
  refine ⟨fun hl e => ?_, fun hl e => ?_, fun hl e => ?_⟩
  · obtain ⟨b, h1, h2⟩ := h.ps.block (fun _ => by simp [encP]) hl; rw [h1] at e; cases e; omega
  · obtain ⟨b, h1, h2⟩ := h.ts.block (fun _ => by simp [encB]) hl; rw [h1] at e; cases e; omega
  · obtain ⟨b, h1, h2⟩ := h.ms.block (fun _ => by simp [encI]) hl; rw [h1] at e; cases e; omega
theorem Apart.own {W : World} {n : Nat} {g : Option Nat} {z : EM} (h : EvR W z.2.1 z.2.2.1 z.2.2.2 z.1) (h1 : Own n z.2.1) (h2 : Own n z.2.2.1) (h3 : Own n z.2.2.2) (hg : ∀ b, g = some b → b < n) : Apart g z := by
  refine ⟨fun hl e => ?_, fun hl e => ?_, fun hl e => ?_⟩
  · obtain ⟨b, k1, _⟩ := h.ps.block (fun _ => by simp [encP]) hl; have := h1 b k1; have := hg b (e.symm.trans k1); omega
  · obtain ⟨b, k1, _⟩ := h.ts.block (fun _ => by simp [encB]) hl; have := h2 b k1; have := hg b (e.symm.trans k1); omega
  · obtain ⟨b, k1, _⟩ := h.ms.block (fun _ => by simp [encI]) hl; have := h3 b k1; have := hg b (e.symm.trans k1); omega
theorem apart_step {W W' : World} {v v' : Value} {u : EM} (hg : W.grownBy W' v.ownBlock) (hw : v'.ownBlock = v.ownBlock ∨ v'.ownBlock = some W.heap.size) (h1 : EvR W u.2.1 u.2.2.1 u.2.2.2 u.1) (h2 : Apart v.ownBlock u) : EvR W' u.2.1 u.2.2.1 u.2.2.2 u.1 ∧ Apart v'.ownBlock u := by
  refine ⟨h1.grown hg h2, ?_⟩
  rcases hw with e | e
  · rw [e]; exact h2
  · rw [e]; exact Apart.new h1 (Nat.le_refl _)
theorem evs_of {W : World} {base k : Nat} {v : Value} {zs : List EM} (h : W.ownsRow base 28 9 v k (zs.flatMap encE)) (hl : zs.length = k) (hk : k ≤ 140737488355328) (he : ∀ z ∈ zs, EvR W z.2.1 z.2.2.1 z.2.2.2 z.1) : Evs W v zs := ⟨row_sl encE_len hl.symm (by omega) h, he⟩
/-- What the loop keeps. -/
def UpsR (ys : List EM) (S H : Int) (w : World) (v i : Value) (wr : World) : Prop := ∃ (k : Nat) (zs : List EM), k ≤ ys.length ∧ i = .int .i64 (k : Int) ∧ zs.length = k ∧ Evt.ups S H ((ys.take k).map Prod.fst) = some (zs.map Prod.fst) ∧ wr.ownsRow w.heap.size 28 9 v k (zs.flatMap encE) ∧ (∀ z ∈ zs, EvR wr z.2.1 z.2.2.1 z.2.2.2 z.1 ∧ Apart v.ownBlock z) ∧ Below w.heap.size w wr
/-- An event that Up answered, in a block of its own. -/
def AtE (Z : Ev) (w0 : World) (p : Value) (wx : World) : Prop := ∃ (A : Nat) (pa : Option Addr) (ca : Nat) (qa : Option Addr) (da : Nat) (ra : Option Addr) (fa : Nat), p = .pointer (some ⟨A, 0, none⟩) ∧ wx.cell? ⟨A, 0, none⟩ = some (.int .i64 Z.k) ∧ wx.cell? ⟨A, 1, none⟩ = some (.slice pa Z.ps.length ca) ∧ wx.cell? ⟨A, 2, none⟩ = some (.slice qa Z.ts.length da) ∧ wx.cell? ⟨A, 3, none⟩ = some (.int .i64 Z.b) ∧ wx.cell? ⟨A, 4, none⟩ = some (.int .i64 Z.d) ∧ wx.cell? ⟨A, 5, none⟩ = some (.int .i64 Z.n) ∧ wx.cell? ⟨A, 6, none⟩ = some (.int .i64 Z.e) ∧ wx.cell? ⟨A, 7, none⟩ = some (.slice ra Z.ms.length fa) ∧ wx.cell? ⟨A, 8, none⟩ = some (.string Z.s) ∧ EvR wx (.slice pa Z.ps.length ca) (.slice qa Z.ts.length da) (.slice ra Z.ms.length fa) Z ∧ (Own w0.heap.size (.slice pa Z.ps.length ca) ∧ Own w0.heap.size (.slice qa Z.ts.length da) ∧ Own w0.heap.size (.slice ra Z.ms.length fa)) ∧ Below w0.heap.size w0 wx

set_option maxRecDepth 100000 in
set_option maxHeartbeats 40000000 in
theorem chordUp_few (v : Value) (ys : List EM) (S H : Int) (w : World) (h : Evs w v ys) (hR : Ready w) (hq : fewL (ys.map Prod.fst) = false) :
    Calls Tryd.prog 12 #[v, iv S H] w fun ed w' => ed = .returned (.bool true) ∧ Below w.heap.size w w' := by
  have HC := Lib.hid h
  obtain ⟨p0, c0, rfl, hl1⟩ := sl_shape h.row
  clear h
  have HQ := Lib.hid hq
  clear hq
  have hB0 : Below w.heap.size w w := Below.refl _ _
  go_enter Tryd.func12, Tryd.ntmps12
  go_wp2_with fail
  have hR' := hR.below (hB0.alloc hB0.size (.cells #[.int .i64 S, .int .i64 H] 38))
  refine (awake_any _ hR').mono ?_
  rintro e w1 ⟨rfl, hb1⟩
  clear hR'
  have hs1 : Below w.heap.size w w1 := Below.trans (by repeat (first | exact Below.refl _ _ | refine Below.alloc ?_ (by simp <;> omega) _)) (hb1.mono (by simp <;> omega))
  have c_g_0 : w1.cell? ⟨w.heap.size, 0, none⟩ = some (.int .i64 S) := (hb1.cell (by simp <;> omega)).trans (by go_simp)
  have c_g_1 : w1.cell? ⟨w.heap.size, 1, none⟩ = some (.int .i64 H) := (hb1.cell (by simp <;> omega)).trans (by go_simp)
  have z_g : w.heap.size < _ := World.block_lt_of_cell? _ _ c_g_0
  have hB1 := below_two hB0 hs1
  clear hB0 hs1 hb1
  go_wp2_with fail
  have hs2 : Below w1.heap.size w1 w1 := by repeat (first | exact Below.refl _ _ | refine Below.alloc ?_ (by simp <;> omega) _)
  replace c_g_0 := cell_later hs2 c_g_0
  replace c_g_1 := cell_later hs2 c_g_1
  have hB2 := below_two hB1 hs2
  clear hB1 hs2
  have y2_g := z_g
  generalize w1 = w2 at *
  clear z_g
  have z_g : w.heap.size < _ := World.block_lt_of_cell? _ _ c_g_0
  go_wp2_with fail
  have hR' := hR.below hB2
  refine (fewL_is HQ.out _ _ (HC.out.later hB2)).mono ?_
  rintro e w3 ⟨rfl, hb3⟩
  clear hR'
  have hs3 := hb3
  replace c_g_0 := cell_later hs3 c_g_0
  replace c_g_1 := cell_later hs3 c_g_1
  clear z_g
  have z_g : w.heap.size < _ := World.block_lt_of_cell? _ _ c_g_0
  have hB3 := below_two hB2 hs3
  clear hB2 hs3
  go_wp2
  go_ret
  exact ⟨rfl, hB3⟩

set_option maxRecDepth 100000 in
set_option maxHeartbeats 40000000 in
theorem chordUp_ok (v : Value) (ys : List EM) (S H : Int) (w : World) (h : Evs w v ys) (hR : Ready w) (hq : fewL (ys.map Prod.fst) = true) (h6 : ys.length ≤ 6) :
    Calls Tryd.prog 12 #[v, iv S H] w fun ed w' => ed = .returned (.bool true) ∧ Below w.heap.size w w' := by
  obtain ⟨i0, hi, hz0, hz1, hz2⟩ := info_parts infoE
  have HC := Lib.hid h
  obtain ⟨p0, c0, rfl, hl1⟩ := sl_shape h.row
  clear h
  have HQ := Lib.hid hq
  clear hq
  have H6 := Lib.hid h6
  clear h6
  have hB0 : Below w.heap.size w w := Below.refl _ _
  go_enter Tryd.func12, Tryd.ntmps12
  go_wp2_with fail
  have hR' := hR.below (hB0.alloc hB0.size (.cells #[.int .i64 S, .int .i64 H] 38))
  refine (awake_any _ hR').mono ?_
  rintro e w1 ⟨rfl, hb1⟩
  clear hR'
  have hs1 : Below w.heap.size w w1 := Below.trans (by repeat (first | exact Below.refl _ _ | refine Below.alloc ?_ (by simp <;> omega) _)) (hb1.mono (by simp <;> omega))
  have c_g_0 : w1.cell? ⟨w.heap.size, 0, none⟩ = some (.int .i64 S) := (hb1.cell (by simp <;> omega)).trans (by go_simp)
  have c_g_1 : w1.cell? ⟨w.heap.size, 1, none⟩ = some (.int .i64 H) := (hb1.cell (by simp <;> omega)).trans (by go_simp)
  have z_g : w.heap.size < _ := World.block_lt_of_cell? _ _ c_g_0
  have hB1 := below_two hB0 hs1
  clear hB0 hs1 hb1
  go_wp2_with fail
  have hs2 : Below w1.heap.size w1 w1 := by repeat (first | exact Below.refl _ _ | refine Below.alloc ?_ (by simp <;> omega) _)
  replace c_g_0 := cell_later hs2 c_g_0
  replace c_g_1 := cell_later hs2 c_g_1
  have hB2 := below_two hB1 hs2
  clear hB1 hs2
  have y2_g := z_g
  generalize w1 = w2 at *
  clear z_g
  have z_g : w.heap.size < _ := World.block_lt_of_cell? _ _ c_g_0
  go_wp2_with fail
  have hR' := hR.below hB2
  refine (fewL_is HQ.out _ _ (HC.out.later hB2)).mono ?_
  rintro e w3 ⟨rfl, hb3⟩
  clear hR'
  have hs3 := hb3
  replace c_g_0 := cell_later hs3 c_g_0
  replace c_g_1 := cell_later hs3 c_g_1
  clear z_g
  have z_g : w.heap.size < _ := World.block_lt_of_cell? _ _ c_g_0
  have hB3 := below_two hB2 hs3
  clear hB2 hs3
  go_wp2
  go_loopw [6, 7] (fun v i wr => UpsR ys S H w3 v i wr) (fun _ i _ => ys.length - (intOf i).toNat)
  case atStart => exact ⟨0, [], Nat.zero_le _, rfl, rfl, rfl, World.ownsRow_nil _ _ _ _, by simp, Below.refl _ _⟩
  case round =>
    obtain ⟨k, zs, hk, rfl, hzl, hup, hown, hze, hB1⟩ := hrel
    obtain ⟨wa, hwa⟩ : ∃ z, z = wr := ⟨_, rfl⟩
    subst hwa
    have HZL := Lib.hid hzl
    have HUP := Lib.hid hup
    have HOW := Lib.hid hown
    have HZE := Lib.hid hze
    clear hzl hup hown hze
    by_cases hlt : k < ys.length
    · obtain ⟨y, hy⟩ : ∃ y, ys[k]? = some y := ⟨_, List.getElem?_eq_getElem hlt⟩
      have hyR := HC.out.each y (List.mem_of_getElem? hy)
      obtain ⟨pp1, cc1, pp2, cc2, pp3, cc3, hys⟩ := evs_shape hyR
      have hat := evs_at HC.out hy
      have HST := Lib.hid (fun (Z : Ev) (hz : Evt.upE S H y.1 = (Z, 0)) => ups_take hy HUP.out hz)
      clear hy
      generalize y.1 = x at *
      subst hys
      obtain ⟨k0, ps, ts, bb, dd0, nn, ee, ms, str⟩ := x
      obtain ⟨bl, ol, el, hc0, hc1, hc2, hc3, hc4, hc5, hc6, hc7, hc8⟩ := hat
      subst el
      dsimp only at hyR hc0 hc1 hc2 hc3 hc4 hc5 hc6 hc7 hc8
      have HW := Lib.hid (hyR.later (below_two hB3 hB1))
      replace hc0 := cell_later (below_two hB3 hB1) hc0
      replace hc1 := cell_later (below_two hB3 hB1) hc1
      replace hc2 := cell_later (below_two hB3 hB1) hc2
      replace hc3 := cell_later (below_two hB3 hB1) hc3
      replace hc4 := cell_later (below_two hB3 hB1) hc4
      replace hc5 := cell_later (below_two hB3 hB1) hc5
      replace hc6 := cell_later (below_two hB3 hB1) hc6
      replace hc7 := cell_later (below_two hB3 hB1) hc7
      replace hc8 := cell_later (below_two hB3 hB1) hc8
      have g0 := cell_later hB1 c_g_0
      have g1 := cell_later hB1 c_g_1
      have hlt' : (k : Int) < (ys.length : Int) := by omega
      have zg : w.heap.size < wa.heap.size := World.block_lt_of_cell? _ _ g0
      have zl : bl < wa.heap.size := World.block_lt_of_cell? _ _ hc0
      have zwn := hB1.size
      clear hyR
      obtain ⟨Z, er, hu⟩ : ∃ Z er, Evt.upE S H ⟨k0, ps, ts, bb, dd0, nn, ee, ms, str⟩ = (Z, er) := ⟨_, _, rfl⟩
      have HU := Lib.hid hu
      clear hu
      go_wp2_with fail
      go_cut [8, 9] (fun p x wx => x = .int .i64 er ∧ AtE Z wa p wx)
      case first =>
        have RA : Hid (∀ u, Below (wa.alloc (.cells #[.int .i64 0, .slice none 0 0, .slice none 0 0, .int .i64 0, .int .i64 0, .int .i64 0, .int .i64 0, .slice none 0 0, .string ⟨#[]⟩] 28)).drew.heap.size (wa.alloc (.cells #[.int .i64 0, .slice none 0 0, .slice none 0 0, .int .i64 0, .int .i64 0, .int .i64 0, .int .i64 0, .slice none 0 0, .string ⟨#[]⟩] 28)).drew u → u.cell? ⟨wa.heap.size, 0, none⟩ = some (.int .i64 0) ∧ u.cell? ⟨wa.heap.size, 1, none⟩ = some (.slice none 0 0) ∧ u.cell? ⟨wa.heap.size, 2, none⟩ = some (.slice none 0 0) ∧ u.cell? ⟨wa.heap.size, 3, none⟩ = some (.int .i64 0) ∧ u.cell? ⟨wa.heap.size, 4, none⟩ = some (.int .i64 0) ∧ u.cell? ⟨wa.heap.size, 5, none⟩ = some (.int .i64 0) ∧ u.cell? ⟨wa.heap.size, 6, none⟩ = some (.int .i64 0) ∧ u.cell? ⟨wa.heap.size, 7, none⟩ = some (.slice none 0 0) ∧ u.cell? ⟨wa.heap.size, 8, none⟩ = some (.string ⟨#[]⟩) ∧ u.frozen? ⟨wa.heap.size, 0, none⟩ = false ∧ u.frozen? ⟨wa.heap.size, 1, none⟩ = false ∧ u.frozen? ⟨wa.heap.size, 2, none⟩ = false ∧ u.frozen? ⟨wa.heap.size, 3, none⟩ = false ∧ u.frozen? ⟨wa.heap.size, 4, none⟩ = false ∧ u.frozen? ⟨wa.heap.size, 5, none⟩ = false ∧ u.frozen? ⟨wa.heap.size, 6, none⟩ = false ∧ u.frozen? ⟨wa.heap.size, 7, none⟩ = false ∧ u.frozen? ⟨wa.heap.size, 8, none⟩ = false ∧ Below wa.heap.size wa u) := Lib.hid (fun u hq => by
          have e0 : (wa.alloc (.cells #[.int .i64 0, .slice none 0 0, .slice none 0 0, .int .i64 0, .int .i64 0, .int .i64 0, .int .i64 0, .slice none 0 0, .string ⟨#[]⟩] 28)).drew.cell? ⟨wa.heap.size, 0, none⟩ = some (.int .i64 0) := cell_drew (by go_simp)
          have e1 : (wa.alloc (.cells #[.int .i64 0, .slice none 0 0, .slice none 0 0, .int .i64 0, .int .i64 0, .int .i64 0, .int .i64 0, .slice none 0 0, .string ⟨#[]⟩] 28)).drew.cell? ⟨wa.heap.size, 1, none⟩ = some (.slice none 0 0) := cell_drew (by go_simp)
          have e2 : (wa.alloc (.cells #[.int .i64 0, .slice none 0 0, .slice none 0 0, .int .i64 0, .int .i64 0, .int .i64 0, .int .i64 0, .slice none 0 0, .string ⟨#[]⟩] 28)).drew.cell? ⟨wa.heap.size, 2, none⟩ = some (.slice none 0 0) := cell_drew (by go_simp)
          have e3 : (wa.alloc (.cells #[.int .i64 0, .slice none 0 0, .slice none 0 0, .int .i64 0, .int .i64 0, .int .i64 0, .int .i64 0, .slice none 0 0, .string ⟨#[]⟩] 28)).drew.cell? ⟨wa.heap.size, 3, none⟩ = some (.int .i64 0) := cell_drew (by go_simp)
          have e4 : (wa.alloc (.cells #[.int .i64 0, .slice none 0 0, .slice none 0 0, .int .i64 0, .int .i64 0, .int .i64 0, .int .i64 0, .slice none 0 0, .string ⟨#[]⟩] 28)).drew.cell? ⟨wa.heap.size, 4, none⟩ = some (.int .i64 0) := cell_drew (by go_simp)
          have e5 : (wa.alloc (.cells #[.int .i64 0, .slice none 0 0, .slice none 0 0, .int .i64 0, .int .i64 0, .int .i64 0, .int .i64 0, .slice none 0 0, .string ⟨#[]⟩] 28)).drew.cell? ⟨wa.heap.size, 5, none⟩ = some (.int .i64 0) := cell_drew (by go_simp)
          have e6 : (wa.alloc (.cells #[.int .i64 0, .slice none 0 0, .slice none 0 0, .int .i64 0, .int .i64 0, .int .i64 0, .int .i64 0, .slice none 0 0, .string ⟨#[]⟩] 28)).drew.cell? ⟨wa.heap.size, 6, none⟩ = some (.int .i64 0) := cell_drew (by go_simp)
          have e7 : (wa.alloc (.cells #[.int .i64 0, .slice none 0 0, .slice none 0 0, .int .i64 0, .int .i64 0, .int .i64 0, .int .i64 0, .slice none 0 0, .string ⟨#[]⟩] 28)).drew.cell? ⟨wa.heap.size, 7, none⟩ = some (.slice none 0 0) := cell_drew (by go_simp)
          have e8 : (wa.alloc (.cells #[.int .i64 0, .slice none 0 0, .slice none 0 0, .int .i64 0, .int .i64 0, .int .i64 0, .int .i64 0, .slice none 0 0, .string ⟨#[]⟩] 28)).drew.cell? ⟨wa.heap.size, 8, none⟩ = some (.string ⟨#[]⟩) := cell_drew (by go_simp)
          exact ⟨cell_later hq e0, cell_later hq e1, cell_later hq e2, cell_later hq e3, cell_later hq e4, cell_later hq e5, cell_later hq e6, cell_later hq e7, cell_later hq e8, frozen_later hq e0 (frozen_drew (by go_simp)), frozen_later hq e1 (frozen_drew (by go_simp)), frozen_later hq e2 (frozen_drew (by go_simp)), frozen_later hq e3 (frozen_drew (by go_simp)), frozen_later hq e4 (frozen_drew (by go_simp)), frozen_later hq e5 (frozen_drew (by go_simp)), frozen_later hq e6 (frozen_drew (by go_simp)), frozen_later hq e7 (frozen_drew (by go_simp)), frozen_later hq e8 (frozen_drew (by go_simp)), below_two (alloc_below (Below.refl _ _)).drew hq⟩)
        have RB : Hid (∀ u, Below wa.drew.heap.size wa.drew u → u.cell? ⟨bl, ol + k * 9, none⟩ = some (.int .i64 k0) ∧ u.cell? ⟨bl, ol + k * 9 + 1, none⟩ = some (.slice pp1 ps.length cc1) ∧ u.cell? ⟨bl, ol + k * 9 + 2, none⟩ = some (.slice pp2 ts.length cc2) ∧ u.cell? ⟨bl, ol + k * 9 + 3, none⟩ = some (.int .i64 bb) ∧ u.cell? ⟨bl, ol + k * 9 + 4, none⟩ = some (.int .i64 dd0) ∧ u.cell? ⟨bl, ol + k * 9 + 5, none⟩ = some (.int .i64 nn) ∧ u.cell? ⟨bl, ol + k * 9 + 6, none⟩ = some (.int .i64 ee) ∧ u.cell? ⟨bl, ol + k * 9 + 7, none⟩ = some (.slice pp3 ms.length cc3) ∧ u.cell? ⟨bl, ol + k * 9 + 8, none⟩ = some (.string str) ∧ u.cell? ⟨w.heap.size, 0, none⟩ = some (.int .i64 S) ∧ u.cell? ⟨w.heap.size, 1, none⟩ = some (.int .i64 H) ∧ Below wa.heap.size wa u) := Lib.hid (fun u hq => ⟨cell_later hq (cell_drew hc0), cell_later hq (cell_drew hc1), cell_later hq (cell_drew hc2), cell_later hq (cell_drew hc3), cell_later hq (cell_drew hc4), cell_later hq (cell_drew hc5), cell_later hq (cell_drew hc6), cell_later hq (cell_drew hc7), cell_later hq (cell_drew hc8), cell_later hq (cell_drew g0), cell_later hq (cell_drew g1), below_two (Below.refl _ _).drew hq⟩)
        have HR1 : Hid (Ready wa.drew) := Lib.hid (hR.below (below_two hB3 hB1).drew)
        have HR2 : Hid (Ready (wa.alloc (.cells #[.int .i64 0, .slice none 0 0, .slice none 0 0, .int .i64 0, .int .i64 0, .int .i64 0, .int .i64 0, .slice none 0 0, .string ⟨#[]⟩] 28)).drew) := Lib.hid (hR.below (alloc_below (below_two hB3 hB1)).drew)
        have HW1 : Hid (EvR wa.drew (.slice pp1 ps.length cc1) (.slice pp2 ts.length cc2) (.slice pp3 ms.length cc3) ⟨k0, ps, ts, bb, dd0, nn, ee, ms, str⟩) := Lib.hid (HW.out.later (Below.refl _ _).drew)
        have HW2 : Hid (EvR (wa.alloc (.cells #[.int .i64 0, .slice none 0 0, .slice none 0 0, .int .i64 0, .int .i64 0, .int .i64 0, .int .i64 0, .slice none 0 0, .string ⟨#[]⟩] 28)).drew (.slice pp1 ps.length cc1) (.slice pp2 ts.length cc2) (.slice pp3 ms.length cc3) ⟨k0, ps, ts, bb, dd0, nn, ee, ms, str⟩) := Lib.hid (HW.out.later (alloc_below (Below.refl _ _)).drew)
        clear HQ HC HZL HUP HOW HZE HST HW hR hB3 hB1 hi hz0 hz1 hz2 c_g_0 c_g_1 H6
        go_region_held3 (fun w' => w'.cell? ⟨bl, ol + k * 9, none⟩ = some (.int .i64 k0) ∧ w'.cell? ⟨bl, ol + k * 9 + 1, none⟩ = some (.slice pp1 ps.length cc1) ∧ w'.cell? ⟨bl, ol + k * 9 + 2, none⟩ = some (.slice pp2 ts.length cc2) ∧ w'.cell? ⟨bl, ol + k * 9 + 3, none⟩ = some (.int .i64 bb) ∧ w'.cell? ⟨bl, ol + k * 9 + 4, none⟩ = some (.int .i64 dd0) ∧ w'.cell? ⟨bl, ol + k * 9 + 5, none⟩ = some (.int .i64 nn) ∧ w'.cell? ⟨bl, ol + k * 9 + 6, none⟩ = some (.int .i64 ee) ∧ w'.cell? ⟨bl, ol + k * 9 + 7, none⟩ = some (.slice pp3 ms.length cc3) ∧ w'.cell? ⟨bl, ol + k * 9 + 8, none⟩ = some (.string str) ∧ w'.cell? ⟨w.heap.size, 0, none⟩ = some (.int .i64 S) ∧ w'.cell? ⟨w.heap.size, 1, none⟩ = some (.int .i64 H) ∧ Below wa.heap.size wa w')
          (((try go_split_ands); refine ⟨?_, ?_, ?_, ?_, ?_, ?_, ?_, ?_, ?_, ?_, ?_, ?_⟩ <;> first | with_reducible assumption | (with_reducible refine put9_far ?_ ?_; with_reducible assumption; omega) | (with_reducible refine put9_below ?_ ?_; with_reducible assumption; omega) | (with_reducible refine cell_later hq ?_; with_reducible assumption) | (with_reducible refine below_two ?_ hq; with_reducible assumption) | (with_reducible refine alloc_cell ?_; with_reducible assumption) | (with_reducible refine alloc_below ?_; with_reducible assumption) | with_reducible exact cell_drew hc0 | with_reducible exact cell_drew hc1 | with_reducible exact cell_drew hc2 | with_reducible exact cell_drew hc3 | with_reducible exact cell_drew hc4 | with_reducible exact cell_drew hc5 | with_reducible exact cell_drew hc6 | with_reducible exact cell_drew hc7 | with_reducible exact cell_drew hc8 | with_reducible exact cell_drew g0 | with_reducible exact cell_drew g1 | with_reducible exact Below.drew (Below.refl _ _) | with_reducible exact cell_drew (alloc_cell hc0) | with_reducible exact cell_drew (alloc_cell hc1) | with_reducible exact cell_drew (alloc_cell hc2) | with_reducible exact cell_drew (alloc_cell hc3) | with_reducible exact cell_drew (alloc_cell hc4) | with_reducible exact cell_drew (alloc_cell hc5) | with_reducible exact cell_drew (alloc_cell hc6) | with_reducible exact cell_drew (alloc_cell hc7) | with_reducible exact cell_drew (alloc_cell hc8) | with_reducible exact cell_drew (alloc_cell g0) | with_reducible exact cell_drew (alloc_cell g1) | with_reducible exact (alloc_below (Below.refl _ _)).drew))
          (first
            | (go_at_call 25; first
                | ((with_reducible refine (eup_isO HU.out _ _ _ wa.drew HW1.out HR1.out).mono ?_); rintro ed u5 ⟨vp, vt, vm, rfl, hev, hown, hq⟩; dsimp only at hev; obtain ⟨pa, ca, e3, _⟩ := sl_shape hev.ps; obtain ⟨qa, da, e4, _⟩ := sl_shape hev.ts; obtain ⟨ra, fa, e5, _⟩ := sl_shape hev.ms; subst e3 e4 e5; have HVE := Lib.hid hev; have HOE := Lib.hid hown; clear hev hown; obtain ⟨n_0, n_1, n_2, n_3, n_4, n_5, n_6, n_7, n_8, n_9, n_10, hb5⟩ := RB.out _ hq)
                | ((with_reducible refine (eup_isO HU.out _ _ _ (wa.alloc (.cells #[.int .i64 0, .slice none 0 0, .slice none 0 0, .int .i64 0, .int .i64 0, .int .i64 0, .int .i64 0, .slice none 0 0, .string ⟨#[]⟩] 28)).drew HW2.out HR2.out).mono ?_); rintro ed u5 ⟨vp, vt, vm, rfl, hev, hown, hq⟩; dsimp only at hev; obtain ⟨pa, ca, e3, _⟩ := sl_shape hev.ps; obtain ⟨qa, da, e4, _⟩ := sl_shape hev.ts; obtain ⟨ra, fa, e5, _⟩ := sl_shape hev.ms; subst e3 e4 e5; have HVE := Lib.hid hev; have HOE := Lib.hid hown; clear hev hown; obtain ⟨r_0, r_1, r_2, r_3, r_4, r_5, r_6, r_7, r_8, f_0, f_1, f_2, f_3, f_4, f_5, f_6, f_7, f_8, hb5⟩ := RA.out _ hq)))
        all_goals (first
          | (go_wp2_with fail; go_meet; case rel => exact ⟨rfl, _, _, _, _, _, _, _, rfl, (put9_of (x0 := .int .i64 Z.k) (x1 := .slice pa Z.ps.length ca) (x2 := .slice qa Z.ts.length da) (x3 := .int .i64 Z.b) (x4 := .int .i64 Z.d) (x5 := .int .i64 Z.n) (x6 := .int .i64 Z.e) (x7 := .slice ra Z.ms.length fa) (x8 := .string Z.s) r_0 r_1 r_2 r_3 r_4 r_5 r_6 r_7 r_8).1, (put9_of (x0 := .int .i64 Z.k) (x1 := .slice pa Z.ps.length ca) (x2 := .slice qa Z.ts.length da) (x3 := .int .i64 Z.b) (x4 := .int .i64 Z.d) (x5 := .int .i64 Z.n) (x6 := .int .i64 Z.e) (x7 := .slice ra Z.ms.length fa) (x8 := .string Z.s) r_0 r_1 r_2 r_3 r_4 r_5 r_6 r_7 r_8).2.1, (put9_of (x0 := .int .i64 Z.k) (x1 := .slice pa Z.ps.length ca) (x2 := .slice qa Z.ts.length da) (x3 := .int .i64 Z.b) (x4 := .int .i64 Z.d) (x5 := .int .i64 Z.n) (x6 := .int .i64 Z.e) (x7 := .slice ra Z.ms.length fa) (x8 := .string Z.s) r_0 r_1 r_2 r_3 r_4 r_5 r_6 r_7 r_8).2.2.1, (put9_of (x0 := .int .i64 Z.k) (x1 := .slice pa Z.ps.length ca) (x2 := .slice qa Z.ts.length da) (x3 := .int .i64 Z.b) (x4 := .int .i64 Z.d) (x5 := .int .i64 Z.n) (x6 := .int .i64 Z.e) (x7 := .slice ra Z.ms.length fa) (x8 := .string Z.s) r_0 r_1 r_2 r_3 r_4 r_5 r_6 r_7 r_8).2.2.2.1, (put9_of (x0 := .int .i64 Z.k) (x1 := .slice pa Z.ps.length ca) (x2 := .slice qa Z.ts.length da) (x3 := .int .i64 Z.b) (x4 := .int .i64 Z.d) (x5 := .int .i64 Z.n) (x6 := .int .i64 Z.e) (x7 := .slice ra Z.ms.length fa) (x8 := .string Z.s) r_0 r_1 r_2 r_3 r_4 r_5 r_6 r_7 r_8).2.2.2.2.1, (put9_of (x0 := .int .i64 Z.k) (x1 := .slice pa Z.ps.length ca) (x2 := .slice qa Z.ts.length da) (x3 := .int .i64 Z.b) (x4 := .int .i64 Z.d) (x5 := .int .i64 Z.n) (x6 := .int .i64 Z.e) (x7 := .slice ra Z.ms.length fa) (x8 := .string Z.s) r_0 r_1 r_2 r_3 r_4 r_5 r_6 r_7 r_8).2.2.2.2.2.1, (put9_of (x0 := .int .i64 Z.k) (x1 := .slice pa Z.ps.length ca) (x2 := .slice qa Z.ts.length da) (x3 := .int .i64 Z.b) (x4 := .int .i64 Z.d) (x5 := .int .i64 Z.n) (x6 := .int .i64 Z.e) (x7 := .slice ra Z.ms.length fa) (x8 := .string Z.s) r_0 r_1 r_2 r_3 r_4 r_5 r_6 r_7 r_8).2.2.2.2.2.2.1, (put9_of (x0 := .int .i64 Z.k) (x1 := .slice pa Z.ps.length ca) (x2 := .slice qa Z.ts.length da) (x3 := .int .i64 Z.b) (x4 := .int .i64 Z.d) (x5 := .int .i64 Z.n) (x6 := .int .i64 Z.e) (x7 := .slice ra Z.ms.length fa) (x8 := .string Z.s) r_0 r_1 r_2 r_3 r_4 r_5 r_6 r_7 r_8).2.2.2.2.2.2.2.1, (put9_of (x0 := .int .i64 Z.k) (x1 := .slice pa Z.ps.length ca) (x2 := .slice qa Z.ts.length da) (x3 := .int .i64 Z.b) (x4 := .int .i64 Z.d) (x5 := .int .i64 Z.n) (x6 := .int .i64 Z.e) (x7 := .slice ra Z.ms.length fa) (x8 := .string Z.s) r_0 r_1 r_2 r_3 r_4 r_5 r_6 r_7 r_8).2.2.2.2.2.2.2.2, put9_evr HVE.out (HOE.out.1.mono (by simp)) (HOE.out.2.1.mono (by simp)) (HOE.out.2.2.mono (by simp)), ⟨HOE.out.1.mono (by simp), HOE.out.2.1.mono (by simp), HOE.out.2.2.mono (by simp)⟩, put9_below hb5 (by omega)⟩)
          | (go_wp2_with fail; go_meet; case rel => exact ⟨rfl, _, _, _, _, _, _, _, rfl, by go_simp, by go_simp, by go_simp, by go_simp, by go_simp, by go_simp, by go_simp, by go_simp, by go_simp, HVE.out.later (alloc_below (Below.refl _ _)), ⟨HOE.out.1.mono (by simp), HOE.out.2.1.mono (by simp), HOE.out.2.2.mono (by simp)⟩, alloc_below hb5⟩))
      case rest =>
      obtain ⟨rfl, A1, pa, ca, qa, da, ra, fa, rfl, a0, a1, a2, a3, a4, a5, a6, a7, a8, hZR, hZO, hBx⟩ := hcut
      have HZR := Lib.hid hZR
      have HZO := Lib.hid hZO
      clear hZO
      have hBW := below_two hB1 hBx
      have g0' := cell_later hBx g0
      have g1' := cell_later hBx g1
      clear hZR hc0 hc1 hc2 hc3 hc4 hc5 hc6 hc7 hc8 g0 g1
      by_cases h0 : er = 0
      · subst h0
        have HOW1 := Lib.hid (own_later HOW.out hBx)
        have HST1 := Lib.hid (HST.out Z HU.out)
        have zA : A1 < wc.heap.size := World.block_lt_of_cell? _ _ a0
        have zwc := hBx.size
        have hzl := HZL.out
        have hk6 : k ≤ 6 := by have := H6.out; omega
        go_wp2_with (first
          | (at_builtin; refine wpList_append_own_at _ rfl _ _ 42 rfl w3.heap.size 28 i0 (.agg #[.int .i64 0, .slice none 0 0, .slice none 0 0, .int .i64 0, .int .i64 0, .int .i64 0, .int .i64 0, .slice none 0 0, .string ⟨#[]⟩]) 9 128 Tryd.underlying42 hi hz0 hz1 hz2 rfl (by decide) _ _ _ rfl (HOW1.out.alloc _) ⟨wc.heap.size, 0, none⟩ 1 1 (encE (Z, .slice pa Z.ps.length ca, .slice qa Z.ts.length da, .slice ra Z.ms.length fa)) rfl rfl (cells9_new _ _ _ rfl) (fun u hu => oneE (zs := [(Z, .slice pa Z.ps.length ca, .slice qa Z.ts.length da, .slice ra Z.ms.length fa)]) (fun z hz => by rw [List.mem_singleton.1 hz]; exact HZR.out) u (by simpa using hu)) (by unfold maxLen; omega) (by omega) (by simp; omega) ?_; intro v' w9 hown9 hgrow _ hwhere)
          | fail)
        have hb2 : Below w3.heap.size (wc.alloc (.cells #[.int .i64 Z.k, .slice pa Z.ps.length ca, .slice qa Z.ts.length da, .int .i64 Z.b, .int .i64 Z.d, .int .i64 Z.n, .int .i64 Z.e, .slice ra Z.ms.length fa, .string Z.s] 28)) w9 := (Below.refl _ _).grown hgrow (by simp; omega) (fun j hj => (HOW1.out.lt j hj).1)
        have HB2 : Hid (Below w3.heap.size w3 w9) := Lib.hid ((alloc_below hBW).trans hb2)
        have HN : Hid (w9.ownsRow w3.heap.size 28 9 v' (k + 1) ((zs ++ [((Z, .slice pa Z.ps.length ca, .slice qa Z.ts.length da, .slice ra Z.ms.length fa) : EM)]).flatMap encE)) := Lib.hid (by rw [List.flatMap_append]; simpa [encE] using hown9)
        have HZN : Hid (∀ z ∈ zs ++ [((Z, .slice pa Z.ps.length ca, .slice qa Z.ts.length da, .slice ra Z.ms.length fa) : EM)], EvR w9 z.2.1 z.2.2.1 z.2.2.2 z.1 ∧ Apart v'.ownBlock z) := Lib.hid (by
          intro z hz
          rcases List.mem_append.1 hz with hz | hz
          · obtain ⟨h1, h2⟩ := HZE.out z hz
            exact apart_step hgrow hwhere ((h1.later hBx).later (alloc_below (Below.refl _ _))) h2
          · rw [List.mem_singleton.1 hz]
            exact apart_step (u := (Z, .slice pa Z.ps.length ca, .slice qa Z.ts.length da, .slice ra Z.ms.length fa)) hgrow hwhere (HZR.out.later (alloc_below (Below.refl _ _))) (Apart.own (n := wa.heap.size) (W := wc) HZR.out HZO.out.1 HZO.out.2.1 HZO.out.2.2 (fun b hb => (HOW.out.lt b hb).2)))
        clear hb2 hown9 hgrow hwhere HOW1
        go_wp2
        go_roundw
        case rel => exact ⟨k + 1, zs ++ [((Z, .slice pa Z.ps.length ca, .slice qa Z.ts.length da, .slice ra Z.ms.length fa) : EM)], by omega, by go_num, by rw [List.length_append, HZL.out]; rfl, by rw [HST1.out, List.map_append]; rfl, HN.out, HZN.out, HB2.out⟩
        case measure => simp [intOf]; omega
      · have hne : (er == 0) = false := by simpa using h0
        have hne' : (er != 0) = true := by simpa using h0
        go_wp2
        go_ret
        exact ⟨rfl, below_two hB3 hBW⟩
    · obtain rfl : k = ys.length := by omega
      have hup := HUP.out
      rw [List.take_length] at hup
      have HCU := Lib.hid (Evt.chordE_up hup)
      have HEV := Lib.hid (evs_of HOW.out HZL.out (by have := H6.out; omega) (fun z hz => (HZE.out z hz).1))
      have hl6 : zs.length ≤ 100000 := by have := HZL.out; have := H6.out; omega
      have hl6' : ys.length ≤ 100000 := by have := H6.out; omega
      have g0 := cell_later hB1 c_g_0
      have g1 := cell_later hB1 c_g_1
      clear hup HOW HZE
      obtain ⟨A, e1, hA⟩ : ∃ A e, Evt.chordE (zs.map Prod.fst) = (A, e) := ⟨_, _, rfl⟩
      obtain ⟨Q, e2, hQ⟩ : ∃ A e, Evt.chordE (ys.map Prod.fst) = (A, e) := ⟨_, _, rfl⟩
      have HA := Lib.hid hA
      have HQQ := Lib.hid hQ
      have HCV := HCU.out
      rw [hA, hQ] at HCV
      obtain ⟨h12, h3⟩ := HCV
      dsimp only at h12 h3
      subst h12
      have H3 := Lib.hid h3
      clear hA hQ h3 HCU
      go_wp2_with fail
      refine (chord_is (ys := zs) HA.out _ _ HEV.out hl6 (hR.below (below_two hB3 hB1))).mono ?_
      rintro ed w5 ⟨vp, vt, vm, rfl, hev, hb5⟩
      dsimp only at hev
      obtain ⟨pa, ca, e3, _⟩ := sl_shape hev.ps
      obtain ⟨qa, da, e4, _⟩ := sl_shape hev.ts
      obtain ⟨ra, fa, e5, _⟩ := sl_shape hev.ms
      subst e3 e4 e5
      have HVA := Lib.hid hev
      have hB5 := below_two (below_two hB3 hB1) hb5
      have zl1 := World.block_lt_of_cell? _ _ g0
      replace g0 := cell_later hb5 g0
      replace g1 := cell_later hb5 g1
      have HC5 := Lib.hid ((HC.out.later hB3).later (below_two hB1 hb5))
      clear hev HEV
      go_wp2_with fail
      refine (chord_is (ys := ys) HQQ.out _ _ (HC.out.later (alloc_below hB5)) hl6' (hR.below (alloc_below hB5))).mono ?_
      rintro ed w6 ⟨vp, vt, vm, rfl, hev, hb6⟩
      dsimp only at hev
      obtain ⟨pc, cc, e3, _⟩ := sl_shape hev.ps
      obtain ⟨qc, dc, e4, _⟩ := sl_shape hev.ts
      obtain ⟨rc, fc, e5, _⟩ := sl_shape hev.ms
      subst e3 e4 e5
      have HVC := Lib.hid hev
      have a0 : w6.cell? ⟨w5.heap.size, 0, none⟩ = some (.int .i64 A.k) := (hb6.cell (by simp)).trans (by go_simp)
      have a1 : w6.cell? ⟨w5.heap.size, 1, none⟩ = some (.slice pa A.ps.length ca) := (hb6.cell (by simp)).trans (by go_simp)
      have a2 : w6.cell? ⟨w5.heap.size, 2, none⟩ = some (.slice qa A.ts.length da) := (hb6.cell (by simp)).trans (by go_simp)
      have a3 : w6.cell? ⟨w5.heap.size, 3, none⟩ = some (.int .i64 A.b) := (hb6.cell (by simp)).trans (by go_simp)
      have a4 : w6.cell? ⟨w5.heap.size, 4, none⟩ = some (.int .i64 A.d) := (hb6.cell (by simp)).trans (by go_simp)
      have a5 : w6.cell? ⟨w5.heap.size, 5, none⟩ = some (.int .i64 A.n) := (hb6.cell (by simp)).trans (by go_simp)
      have a6 : w6.cell? ⟨w5.heap.size, 6, none⟩ = some (.int .i64 A.e) := (hb6.cell (by simp)).trans (by go_simp)
      have a7 : w6.cell? ⟨w5.heap.size, 7, none⟩ = some (.slice ra A.ms.length fa) := (hb6.cell (by simp)).trans (by go_simp)
      have a8 : w6.cell? ⟨w5.heap.size, 8, none⟩ = some (.string A.s) := (hb6.cell (by simp)).trans (by go_simp)
      have hs6 : Below w5.heap.size w5 w6 := Below.trans (alloc_below (Below.refl _ _)) (hb6.mono (by simp))
      have HVA6 := Lib.hid (HVA.out.later hs6)
      have hB6 := below_two hB5 hs6
      replace g0 := cell_later hs6 g0
      replace g1 := cell_later hs6 g1
      clear hev HVA HC5 hb6 hs6
      by_cases h0 : e1 = 0
      case neg =>
        have hne : (e1 == 0) = false := by simpa using h0
        have hne' : (e1 != 0) = true := by simpa using h0
        go_wp2
        go_ret
        exact ⟨rfl, alloc_below hB6⟩
      case pos =>
      subst h0
      have HU := Lib.hid (H3.out rfl)
      have zg := World.block_lt_of_cell? _ _ g0
      have za := World.block_lt_of_cell? _ _ a0
      go_wp2_with fail
      refine (eup_is HU.out _ _ _ _ (HVC.out.later (alloc_below (Below.refl _ _))) (hR.below (alloc_below hB6))).mono ?_
      rintro ed w7 ⟨vp, vt, vm, rfl, hev, hb7⟩
      dsimp only at hev
      obtain ⟨pb, cb, e3, _⟩ := sl_shape hev.ps
      obtain ⟨qb, db, e4, _⟩ := sl_shape hev.ts
      obtain ⟨rb, fb, e5, _⟩ := sl_shape hev.ms
      subst e3 e4 e5
      have HVB := Lib.hid hev
      have hs7 : Below w6.heap.size w6 w7 := Below.trans (alloc_below (Below.refl _ _)) (hb7.mono (by simp))
      replace a0 := cell_later hs7 a0
      replace a1 := cell_later hs7 a1
      replace a2 := cell_later hs7 a2
      replace a3 := cell_later hs7 a3
      replace a4 := cell_later hs7 a4
      replace a5 := cell_later hs7 a5
      replace a6 := cell_later hs7 a6
      replace a7 := cell_later hs7 a7
      replace a8 := cell_later hs7 a8
      have HVA7 := Lib.hid (HVA6.out.later hs7)
      have hB7 := below_two hB6 hs7
      clear hev HVA6 hs7 hb7 zg za g0 g1
      have za := World.block_lt_of_cell? _ _ a0
      go_wp2_with fail
      refine (esame_is (x := A) (y := A) (sameE_self _) _ _ _ _ _ _ _ (HVA7.out.later (alloc_below (Below.refl _ _))) (HVB.out.later (alloc_below (Below.refl _ _)))).mono ?_
      rintro ed w8 ⟨rfl, hb8⟩
      go_wp2
      go_ret
      exact ⟨rfl, below_two (alloc_below hB7) hb8⟩

theorem chordUp_any (v : Value) (ys : List EM) (S H : Int) (w : World) (h : Evs w v ys) (hR : Ready w) : Calls Tryd.prog 12 #[v, iv S H] w fun ed w' => ed = .returned (.bool true) ∧ Below w.heap.size w w' := by
  cases hq : fewL (ys.map Prod.fst)
  · exact chordUp_few v ys S H w h hR hq
  have h6 : ys.length ≤ 6 := by
    unfold fewL at hq
    rw [Bool.and_eq_true, decide_eq_true_iff, List.length_map] at hq
    exact hq.1
  exact chordUp_ok v ys S H w h hR hq h6
end Go.Proofs.YtoiankbopjaamaaDoor
