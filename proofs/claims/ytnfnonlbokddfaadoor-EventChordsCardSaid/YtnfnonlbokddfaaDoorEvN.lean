/-
  The contract of event.allPitches.
-/
import Derived.Test.YtnfnonlbokddfaaDoorEvMap
import Derived.Test.YtnfnonlbokddfaaDoorEvSort
namespace Go.Proofs.YtnfnonlbokddfaaDoor
open Go.RowKit Go.Maps

open Evt (P3 Ev PT tie)
/-- What the loops of allPitches keep: the pitches met, in v and in the map. -/
def AP (w wr : World) (v : Value) (L : List PT) : Prop := ∃ (F : List P3) (D : DU), Firsts F L ∧ F.length ≤ L.length ∧ MapIs D L ∧ wr.ownsRow (w.heap.size + 1) 57 3 v F.length (F.flatMap encP) ∧ OwnsM wr w.heap.size L.length D ∧ w.heap.size < wr.heap.size ∧ Below w.heap.size w wr
theorem AP.later {w wr W : World} {v : Value} {L : List PT} (h : AP w wr v L) (hb : Below wr.heap.size wr W) : AP w W v L := by
  obtain ⟨F, D, h1, h2, h3, h4, h5, h6, h7⟩ := h
  exact ⟨F, D, h1, h2, h3, own_later h4 hb, ownsM_later h5 hb, Nat.lt_of_lt_of_le h6 hb.size, below_two h7 hb⟩
def ARel1 (ys : List EM) (w : World) (v i : Value) (wr : World) : Prop := ∃ k : Nat, k ≤ ys.length ∧ i = .int .i64 (k : Int) ∧ AP w wr v (flE (ys.take k))
def ARel2 (x : Ev) (L0 : List PT) (w : World) (BX : Nat) (tv v i : Value) (wr : World) : Prop := ∃ j : Nat, j ≤ x.ps.length ∧ i = .int .i64 (j : Int) ∧ AP w wr v (L0 ++ (Evt.pts x).take j) ∧ wr.cell? ⟨BX, 2, none⟩ = some tv ∧ v.ownBlock ≠ some BX
theorem flE_len {ys : List EM} (h : ∀ y ∈ ys, Evt.IsR y.1) : (flE ys).length ≤ 8 * ys.length := by
  induction ys with
  | nil => simp [flE, Evt.fl]
  | cons y ys ih =>
    have h1 := ih fun z hz => h z (by simp [hz])
    have h2 : (Evt.pts y.1).length ≤ 8 := by
      unfold Evt.pts; rw [List.length_zip]; have := (h y (by simp)).max8; omega
    have : flE (y :: ys) = Evt.pts y.1 ++ flE ys := by unfold flE; rw [List.map_cons, Evt.fl_cons]
    rw [this, List.length_append, List.length_cons]
    omega
theorem AP.made (w : World) : AP w (w.alloc (.map #[] 0)) (.slice none 0 0) [] :=
  ⟨[], .map [], Firsts.start, Nat.le_refl _, MapIs.start, World.ownsRow_nil _ _ _ _, World.ownsMap_made _ _ _ _, by simp, (Below.refl _ _).alloc (Nat.le_refl _) _⟩

/-- The row of pitches, sorted. -/
theorem sortRow {w0 w : World} {v : Value} {F : List P3} (hR : Ready w0) (hB : Below w0.heap.size w0 w) (hrow : w.ownsRow (w0.heap.size + 1) 57 3 v F.length (F.flatMap encP)) (hr : F.all Evt.rgt = true) (hl : F.length ≤ 1000000) :
    Calls Tryd.prog 89 #[v, .func (.func 90) #[] #[]] w fun e w' => e = .returned (.tuple #[]) ∧ ∃ S : List P3, S.Perm F ∧ S.Pairwise (fun p q => Evt.ky p ≤ Evt.ky q) ∧ w.grownBy w' v.ownBlock ∧ Pits w' v S := by
  rcases hrow.2 with ⟨rfl, h0⟩ | ⟨g, cap, cur, rfl, hg, hcell, hc, hm, hsz, ht⟩
  · have hn := List.eq_nil_of_length_eq_zero h0
    subst hn
    refine (sortP_none none 0 _ w).mono ?_
    rintro e w' ⟨rfl, rfl⟩
    exact ⟨rfl, [], List.Perm.nil, List.Pairwise.nil, ⟨rfl, rfl, rfl, Nat.le_refl _, fun _ _ _ => rfl⟩, Sl.none _ _ _⟩
  · have hgl : g < w.heap.size := (Array.getElem?_eq_some_iff.1 hcell).1
    refine (sortP_any g cap F hr w0 w hR hB (by omega) hgl (by omega) (fun i x hx j u hu => ?_)).mono ?_
    · have hj : j < 3 := by rw [← lenP x]; exact (List.getElem?_eq_some_iff.1 hu).1
      have h1 := hrow.cells (g := g) rfl (i * 3 + j) u ((flat_at lenP F i x j hx hj).trans hu)
      rw [Addr.add_lit, Nat.zero_add] at h1
      exact ⟨h1, by simp [World.frozen?, hcell]⟩
    · rintro e w' ⟨rfl, S, h1, h2, h3, h4⟩
      refine ⟨rfl, S, h1, h2, h3, ⟨_, cap, by rw [h1.length_eq], by rw [h1.length_eq]; omega, by rw [h1.length_eq]; exact hc, fun i x hx => ⟨g, 0, rfl, fun j u hu => ?_⟩⟩⟩
      rw [Nat.zero_add]
      exact h4 i x hx j u hu
def CRel (S : List P3) (T : P3 → Bool) (w3 : World) (v i : Value) (wr : World) : Prop := ∃ k : Nat, k ≤ S.length ∧ i = .int .i64 (k : Int) ∧ wr.ownsRow w3.heap.size 4 1 v k (((S.take k).map T).flatMap encB) ∧ Below w3.heap.size w3 wr

set_option maxRecDepth 100000 in
set_option maxHeartbeats 40000000 in
theorem allPitches_any (v : Value) (ys : List EM) (w : World) (h : Evs w v ys) (hA : ∀ y ∈ ys, Evt.IsR y.1) (hl : ys.length ≤ 100000) (hR : Ready w) :
    Calls Tryd.prog 48 #[v] w fun ed w' => (∃ vp vt, ed = .returned (.tuple #[vp, vt]) ∧ Pits w' vp ((Evt.allP (ys.map Prod.fst)).map Prod.fst) ∧ Bools w' vt ((Evt.allP (ys.map Prod.fst)).map Prod.snd) ∧ Own w.heap.size vp ∧ Own w.heap.size vt) ∧ Below w.heap.size w w' := by
  obtain ⟨i0, hi, hz0, hz1, hz2⟩ := info_parts infoP
  have hmm := @run_makeMap Tryd.prog
  have HC := Lib.hid h
  have HA := Lib.hid hA
  obtain ⟨p0, c0, rfl, hl1⟩ := sl_shape h.row
  clear h hA
  go_enter Tryd.func48, Tryd.ntmps48
  go_wp2
  go_loopw [2, 16] (fun v i wr => ARel1 ys w v i wr) (fun _ i _ => ys.length - (intOf i).toNat)
  case atStart => exact ⟨0, Nat.zero_le _, rfl, AP.made w⟩
  case round =>
    obtain ⟨k, hk, rfl, hap⟩ := hrel
    have HAP := Lib.hid hap
    have hzB : w.heap.size < wr.heap.size ∧ Below w.heap.size w wr := by obtain ⟨_, _, _, _, _, _, _, h1, h2⟩ := hap; exact ⟨h1, h2⟩
    obtain ⟨hzr, hB⟩ := hzB
    clear hap
    by_cases hlt : k < ys.length
    · obtain ⟨y, hy⟩ : ∃ y, ys[k]? = some y := ⟨_, List.getElem?_eq_getElem hlt⟩
      have hyR := HC.out.each y (List.mem_of_getElem? hy)
      obtain ⟨p1, c1, p2, c2, p3, c3, hys⟩ := evs_shape hyR
      have hat := evs_at HC.out hy
      generalize y.1 = x at *
      subst hys
      obtain ⟨k0, ps, ts, b, d, n, e0, ms, str⟩ := x
      obtain ⟨b1, o1, e1, hc0, hc1, hc2, hc3, hc4, hc5, hc6, hc7, hc8⟩ := hat
      subst e1
      dsimp only at hyR hc0 hc1 hc2 hc3 hc4 hc5 hc6 hc7 hc8
      have hsz := hyR.sz
      replace hc0 := cell_later hB hc0
      replace hc1 := cell_later hB hc1
      replace hc2 := cell_later hB hc2
      replace hc3 := cell_later hB hc3
      replace hc4 := cell_later hB hc4
      replace hc5 := cell_later hB hc5
      replace hc6 := cell_later hB hc6
      replace hc7 := cell_later hB hc7
      replace hc8 := cell_later hB hc8
      have HER : Hid (EvR wr (.slice p1 ps.length c1) (.slice p2 ts.length c2) (.slice p3 ms.length c3) ⟨k0, ps, ts, b, d, n, e0, ms, str⟩) := Lib.hid (hyR.later hB)
      have HY := Lib.hid hy
      have hlt' : (k : Int) < (ys.length : Int) := by omega
      have HEW := Lib.hid hyR
      clear hy hyR
      have hyA := HA.out _ (List.mem_of_getElem? HY.out)
      have HYA := Lib.hid hyA
      have hm8 : ps.length ≤ 8 := hyA.max8
      have htl : ts.length = ps.length := hyA.len
      have hL8 : (flE (ys.take k)).length ≤ 800000 := Nat.le_trans (flE_len fun y hy => HA.out y (List.mem_of_mem_take hy)) (by rw [List.length_take]; omega)
      clear hyA
      have HTL := Lib.hid htl
      clear htl
      have hbx : w.heap.size < wr.heap.size := hzr
      have HAP1 : Hid (AP w (wr.alloc (.cells #[.int .i64 k0, .slice p1 ps.length c1, .slice p2 ts.length c2, .int .i64 b, .int .i64 d, .int .i64 n, .int .i64 e0, .slice p3 ms.length c3, .string str] 28)) u2 (flE (ys.take k))) := Lib.hid (HAP.out.later ((Below.refl _ _).alloc (Nat.le_refl _) _))
      have hxb : (wr.alloc (.cells #[.int .i64 k0, .slice p1 ps.length c1, .slice p2 ts.length c2, .int .i64 b, .int .i64 d, .int .i64 n, .int .i64 e0, .slice p3 ms.length c3, .string str] 28)).cell? ⟨wr.heap.size, 2, none⟩ = some (.slice p2 ts.length c2) := by go_simp
      have HNE : Hid (u2.ownBlock ≠ some wr.heap.size) := Lib.hid (by
        obtain ⟨_, _, _, _, _, hrow, _⟩ := HAP.out
        intro e
        have := (hrow.lt _ e).2
        omega)
      have HF1 := Lib.hid (flE_take HY.out)
      dsimp only at HF1
      generalize flE (ys.take k) = L0 at *
      clear hzr
      go_wp2
      generalize wr.heap.size = BX at *
      go_loopw [2, 23] (fun v i wr2 => ARel2 (⟨k0, ps, ts, b, d, n, e0, ms, str⟩ : Ev) L0 w BX (.slice p2 ts.length c2) v i wr2) (fun _ i _ => ps.length - (intOf i).toNat)
      case atStart => exact ⟨0, Nat.zero_le _, rfl, by rw [List.take_zero, List.append_nil]; exact HAP1.out, hxb, HNE.out⟩
      case round =>
        obtain ⟨j, hj, rfl, hap, hx2, hne⟩ := hrel
        dsimp only at hj
        obtain ⟨F, D, hfs, hfl, hmi, hrow, hom, hzr2, hB2⟩ := hap
        have HFS := Lib.hid hfs
        have HFL := Lib.hid hfl
        have HMS := Lib.hid hmi
        have HRW0 := Lib.hid hrow
        have HOM0 := Lib.hid hom
        have HNE2 := Lib.hid hne
        clear hfs hfl hmi hrow hom hne
        by_cases hlt2 : j < ps.length
        · obtain ⟨p, hp⟩ : ∃ p, ps[j]? = some p := ⟨_, List.getElem?_eq_getElem hlt2⟩
          obtain ⟨t, ht⟩ : ∃ t, ts[j]? = some t := ⟨_, List.getElem?_eq_getElem (by rw [HTL.out]; exact hlt2)⟩
          have HPR : Hid (Evt.rgt p = true) := Lib.hid (List.all_eq_true.1 HYA.out.rgts p (List.mem_of_getElem? hp))
          obtain ⟨b2, o2, e2, hq0, hq1, hq2⟩ := pits_at HEW.out.ps hp
          obtain ⟨b3, o3, e3, hq3⟩ := bools_at HEW.out.ts ht
          subst e2 e3
          have zb3 : b3 < w.heap.size := World.block_lt_of_cell? _ _ hq3
          replace hq0 := cell_later hB2 hq0
          replace hq1 := cell_later hB2 hq1
          replace hq2 := cell_later hB2 hq2
          replace hq3 := cell_later hB2 hq3
          obtain ⟨x0, x1, x2⟩ := p
          dsimp only at hq0 hq1 hq2
          have HPX := Lib.hid (show ((⟨k0, ps, ts, b, d, n, e0, ms, str⟩ : Ev)).ps[j]? = some (x0, x1, x2) from hp)
          have HTX := Lib.hid (show ((⟨k0, ps, ts, b, d, n, e0, ms, str⟩ : Ev)).ts[j]? = some t from ht)
          have hlt2' : (j : Int) < (ps.length : Int) := by omega
          have hlt3 : (j : Int) < (ts.length : Int) := by rw [HTL.out]; omega
          have hlt3' : j < ts.length := by rw [HTL.out]; exact hlt2
          have hFn : F.length ≤ 900000 := by
            have := HFL.out
            rw [List.length_append, List.length_take] at this
            have h9 : (Evt.pts (⟨k0, ps, ts, b, d, n, e0, ms, str⟩ : Ev)).length ≤ 8 := by unfold Evt.pts; rw [List.length_zip]; dsimp only; omega
            omega
          have hLn : (L0 ++ (Evt.pts (⟨k0, ps, ts, b, d, n, e0, ms, str⟩ : Ev)).take j).length ≤ 900000 := by
            rw [List.length_append, List.length_take]
            have h9 : (Evt.pts (⟨k0, ps, ts, b, d, n, e0, ms, str⟩ : Ev)).length ≤ 8 := by unfold Evt.pts; rw [List.length_zip]; dsimp only; omega
            omega
          obtain ⟨c, hc⟩ : ∃ c, tie (L0 ++ (Evt.pts (⟨k0, ps, ts, b, d, n, e0, ms, str⟩ : Ev)).take j) (x0, x1, x2) = c := ⟨_, rfl⟩
          obtain ⟨mt, hmt⟩ : ∃ q, decide ((x0, x1, x2) ∈ (L0 ++ (Evt.pts (⟨k0, ps, ts, b, d, n, e0, ms, str⟩ : Ev)).take j).map Prod.fst) = q := ⟨_, rfl⟩
          have HAT : Hid (D.atKey (kl (x0, x1, x2)) (tB false) = tB c) := Lib.hid (by rw [HMS.out.at_ _ HPR.out, hc])
          have HHAS : Hid (Maps.has D (kl (x0, x1, x2)) = mt) := Lib.hid (by rw [HMS.out.has _ HPR.out, hmt])
          have HTI := Lib.hid hc
          have HMT := Lib.hid hmt
          clear hc hmt hp ht
          have HLN : Hid ((L0 ++ (Evt.pts (⟨k0, ps, ts, b, d, n, e0, ms, str⟩ : Ev)).take (j + 1)).length = (L0 ++ (Evt.pts (⟨k0, ps, ts, b, d, n, e0, ms, str⟩ : Ev)).take j).length + 1) := Lib.hid (by rw [pts_take HPX.out HTX.out, ← List.append_assoc, List.length_append]; rfl)
          have zb2 : b2 < wr.heap.size := World.block_lt_of_cell? _ _ hq0
          cases mt
          · go_wp2_with (first
              | (at_lookup; refine wpList_look_ok _ rfl _ _ 142 rfl Tryd.underlying142 w.heap.size _ D rfl (HOM0.out.alloc _) (x0, x1, x2) HPR.out rfl c false HAT.out HHAS.out ?_)
              | (at_builtin; refine wpList_append_own_at _ rfl _ _ 22 rfl (w.heap.size + 1) 57 i0 (.agg #[.int .i64 0, .int .i64 0, .int .i64 0]) 3 24 Tryd.underlying22 hi hz0 hz1 hz2 rfl (by decide) _ _ _ rfl ((HRW0.out.alloc _).alloc _) ⟨wr.heap.size + 1, 0, none⟩ 1 1 [.int .i64 x0, .int .i64 x1, .int .i64 x2] rfl rfl (cells3_new _ _ _ _ _ (by simp)) (by intro u hu; simp at hu; rcases hu with rfl | rfl | rfl <;> rfl) (by unfold maxLen; omega) (by omega) (by simp; omega) ?_; intro v' w2 hown2 hgrow _ hloc)
              | fail)
            have HGR := Lib.hid hgrow
            have HLO := Lib.hid hloc
            have hneg : ∀ b : Nat, b ≤ w.heap.size → some b ≠ u2.ownBlock := fun b hb e => by have := (HRW0.out.lt b e.symm).1; omega
            have r0 : w2.cell? ⟨wr.heap.size, 0, none⟩ = some (.int .i64 x0) := HGR.out.cell (by go_simp) (fun e => by have := (HRW0.out.lt _ e.symm).2; simp at this)
            have r1 : w2.cell? ⟨wr.heap.size, 1, none⟩ = some (.int .i64 x1) := HGR.out.cell (by go_simp) (fun e => by have := (HRW0.out.lt _ e.symm).2; simp at this)
            have r2 : w2.cell? ⟨wr.heap.size, 2, none⟩ = some (.int .i64 x2) := HGR.out.cell (by go_simp) (fun e => by have := (HRW0.out.lt _ e.symm).2; simp at this)
            have hbxl : BX < wr.heap.size := World.block_lt_of_cell? _ _ hx2
            have hx2' : w2.cell? ⟨BX, 2, none⟩ = some (.slice (some ⟨b3, o3, none⟩) ts.length c2) := HGR.out.cell (alloc_cell (alloc_cell hx2)) (fun e => HNE2.out e.symm)
            have hq3' : w2.cell? ⟨b3, o3 + j, none⟩ = some (.bool t) := HGR.out.cell (alloc_cell (alloc_cell hq3)) (hneg _ (Nat.le_of_lt zb3))
            have HOM : Hid (OwnsM w2 w.heap.size (L0 ++ (Evt.pts (⟨k0, ps, ts, b, d, n, e0, ms, str⟩ : Ev)).take j).length D) := Lib.hid (((HOM0.out.alloc _).alloc _).kept HGR.out (hneg _ (Nat.le_refl _)))
            have hsz2 : w.heap.size ≤ ((wr.alloc (.cells #[.int .i64 x0, .int .i64 x1, .int .i64 x2] 57)).alloc (.cells #[.int .i64 x0, .int .i64 x1, .int .i64 x2] 57)).heap.size := by simp; omega
            have HBW : Hid (Below w.heap.size w w2) := Lib.hid ((alloc_below (alloc_below hB2)).grown HGR.out hsz2 (fun q hq => Nat.le_of_succ_le (HRW0.out.lt q hq).1))
            have HRW : Hid (w2.ownsRow (w.heap.size + 1) 57 3 v' (F ++ [(x0, x1, x2)]).length ((F ++ [(x0, x1, x2)]).flatMap encP)) := Lib.hid (by rw [List.length_append, List.flatMap_append]; simpa [encP] using hown2)
            have HNW : Hid (v'.ownBlock ≠ some BX) := Lib.hid (by
              intro e
              rcases HLO.out with h | h
              · exact HNE2.out (h.symm.trans e)
              · rw [h] at e; have := Option.some.inj e; simp at this; omega)
            have HFW : Hid (Firsts (F ++ [(x0, x1, x2)]) (L0 ++ (Evt.pts (⟨k0, ps, ts, b, d, n, e0, ms, str⟩ : Ev)).take (j + 1))) := Lib.hid (by rw [pts_take HPX.out HTX.out, ← List.append_assoc]; exact HFS.out.new (of_decide_eq_false HMT.out))
            have HLN2 : Hid ((F ++ [(x0, x1, x2)]).length ≤ (L0 ++ (Evt.pts (⟨k0, ps, ts, b, d, n, e0, ms, str⟩ : Ev)).take (j + 1)).length) := Lib.hid (by rw [HLN.out, List.length_append]; exact Nat.succ_le_succ HFL.out)
            have hzW : w.heap.size < w2.heap.size := Nat.lt_of_lt_of_le hzr2 (by have := HGR.out.size; simp at this; omega)
            clear hsz2 hown2 hgrow hloc hneg hx2 hq3 hq0 hq1 hq2 HLO HRW0 HOM0 HNE2 HGR hB2 hbxl zb2
            generalize wr.heap.size = BP at *
            cases c
            · obtain ⟨w7, hrun, hown7, hgrow7⟩ := (show OwnsM w2.drew w.heap.size (L0 ++ (Evt.pts (⟨k0, ps, ts, b, d, n, e0, ms, str⟩ : Ev)).take j).length D from HOM.out.drew).update keyedP Tryd.underlying142 (by unfold maxLen; omega) (key_of HPR.out) (storeBool t)
              have hrun' : (Instr.mapUpdate 142 (.map (some w.heap.size)) (.agg #[.int .i64 x0, .int .i64 x1, .int .i64 x2]) (.bool t)).run Tryd.prog w2.drew = .ok () w7 := hrun
              have HM7 : Hid (OwnsM w7 w.heap.size ((L0 ++ (Evt.pts (⟨k0, ps, ts, b, d, n, e0, ms, str⟩ : Ev)).take j).length + 1) (D.put (kl (x0, x1, x2)) (tB t))) := Lib.hid hown7
              have HG7 := Lib.hid hgrow7
              clear hown7 hgrow7 hrun
              go_region
              all_goals
                have hx7 : w7.cell? ⟨BX, 2, none⟩ = some (.slice (some ⟨b3, o3, none⟩) ts.length c2) := HG7.out.cell (cell_drew hx2') (by intro e; have : BX = w.heap.size := Option.some.inj e; omega)
                have HB7 : Hid (Below w.heap.size w w7) := Lib.hid (Below.grown (HBW.out).drew HG7.out (Nat.le_of_lt hzW) (fun k hk => by cases hk; exact Nat.le_refl _))
                have HR7 : Hid (w7.ownsRow (w.heap.size + 1) 57 3 v' (F ++ [(x0, x1, x2)]).length ((F ++ [(x0, x1, x2)]).flatMap encP)) := Lib.hid ((show w2.drew.ownsRow (w.heap.size + 1) 57 3 v' (F ++ [(x0, x1, x2)]).length ((F ++ [(x0, x1, x2)]).flatMap encP) from HRW.out).kept HG7.out (Or.inr (fun e => by have := (HRW.out.lt _ e).1; omega)))
                have hz7 : w.heap.size < w7.heap.size := Nat.lt_of_lt_of_le hzW HG7.out.size
                have HMI : Hid (MapIs (D.put (kl (x0, x1, x2)) (tB t)) (L0 ++ (Evt.pts (⟨k0, ps, ts, b, d, n, e0, ms, str⟩ : Ev)).take (j + 1))) := Lib.hid (by
                  have := HMS.out.step HPR.out t
                  rw [HTI.out, List.append_assoc, ← pts_take HPX.out HTX.out] at this
                  exact this)
                clear hrun'
                go_wp2
                go_roundw
                case rel => exact ⟨j + 1, by show j + 1 ≤ ps.length; omega, by go_num, ⟨_, _, HFW.out, HLN2.out, HMI.out, HR7.out, by rw [HLN.out]; exact HM7.out, hz7, HB7.out⟩, hx7, HNW.out⟩
                case measure => simp [intOf]; omega
            · obtain ⟨w7, hrun, hown7, hgrow7⟩ := (show OwnsM w2.drew w.heap.size (L0 ++ (Evt.pts (⟨k0, ps, ts, b, d, n, e0, ms, str⟩ : Ev)).take j).length D from HOM.out.drew).update keyedP Tryd.underlying142 (by unfold maxLen; omega) (key_of HPR.out) (storeBool true)
              have hrun' : (Instr.mapUpdate 142 (.map (some w.heap.size)) (.agg #[.int .i64 x0, .int .i64 x1, .int .i64 x2]) (.bool true)).run Tryd.prog w2.drew = .ok () w7 := hrun
              have HM7 : Hid (OwnsM w7 w.heap.size ((L0 ++ (Evt.pts (⟨k0, ps, ts, b, d, n, e0, ms, str⟩ : Ev)).take j).length + 1) (D.put (kl (x0, x1, x2)) (tB true))) := Lib.hid hown7
              have HG7 := Lib.hid hgrow7
              clear hown7 hgrow7 hrun
              go_region
              all_goals
                have hx7 : w7.cell? ⟨BX, 2, none⟩ = some (.slice (some ⟨b3, o3, none⟩) ts.length c2) := HG7.out.cell (cell_drew hx2') (by intro e; have : BX = w.heap.size := Option.some.inj e; omega)
                have HB7 : Hid (Below w.heap.size w w7) := Lib.hid (Below.grown (HBW.out).drew HG7.out (Nat.le_of_lt hzW) (fun k hk => by cases hk; exact Nat.le_refl _))
                have HR7 : Hid (w7.ownsRow (w.heap.size + 1) 57 3 v' (F ++ [(x0, x1, x2)]).length ((F ++ [(x0, x1, x2)]).flatMap encP)) := Lib.hid ((show w2.drew.ownsRow (w.heap.size + 1) 57 3 v' (F ++ [(x0, x1, x2)]).length ((F ++ [(x0, x1, x2)]).flatMap encP) from HRW.out).kept HG7.out (Or.inr (fun e => by have := (HRW.out.lt _ e).1; omega)))
                have hz7 : w.heap.size < w7.heap.size := Nat.lt_of_lt_of_le hzW HG7.out.size
                have HMI : Hid (MapIs (D.put (kl (x0, x1, x2)) (tB true)) (L0 ++ (Evt.pts (⟨k0, ps, ts, b, d, n, e0, ms, str⟩ : Ev)).take (j + 1))) := Lib.hid (by
                  have := HMS.out.step HPR.out t
                  rw [HTI.out, List.append_assoc, ← pts_take HPX.out HTX.out] at this
                  exact this)
                clear hrun'
                go_wp2
                go_roundw
                case rel => exact ⟨j + 1, by show j + 1 ≤ ps.length; omega, by go_num, ⟨_, _, HFW.out, HLN2.out, HMI.out, HR7.out, by rw [HLN.out]; exact HM7.out, hz7, HB7.out⟩, hx7, HNW.out⟩
                case measure => simp [intOf]; omega
          · go_wp2_with (at_lookup; refine wpList_look_ok _ rfl _ _ 142 rfl Tryd.underlying142 w.heap.size _ D rfl (HOM0.out.alloc _) (x0, x1, x2) HPR.out rfl c true HAT.out HHAS.out ?_)
            have r0 : (wr.alloc (.cells #[.int .i64 x0, .int .i64 x1, .int .i64 x2] 57)).cell? ⟨wr.heap.size, 0, none⟩ = some (.int .i64 x0) := by go_simp
            have r1 : (wr.alloc (.cells #[.int .i64 x0, .int .i64 x1, .int .i64 x2] 57)).cell? ⟨wr.heap.size, 1, none⟩ = some (.int .i64 x1) := by go_simp
            have r2 : (wr.alloc (.cells #[.int .i64 x0, .int .i64 x1, .int .i64 x2] 57)).cell? ⟨wr.heap.size, 2, none⟩ = some (.int .i64 x2) := by go_simp
            have hbxl : BX < wr.heap.size := World.block_lt_of_cell? _ _ hx2
            have hx2' : (wr.alloc (.cells #[.int .i64 x0, .int .i64 x1, .int .i64 x2] 57)).cell? ⟨BX, 2, none⟩ = some (.slice (some ⟨b3, o3, none⟩) ts.length c2) := alloc_cell hx2
            have hq3' : (wr.alloc (.cells #[.int .i64 x0, .int .i64 x1, .int .i64 x2] 57)).cell? ⟨b3, o3 + j, none⟩ = some (.bool t) := alloc_cell hq3
            have HOM : Hid (OwnsM (wr.alloc (.cells #[.int .i64 x0, .int .i64 x1, .int .i64 x2] 57)) w.heap.size (L0 ++ (Evt.pts (⟨k0, ps, ts, b, d, n, e0, ms, str⟩ : Ev)).take j).length D) := Lib.hid (HOM0.out.alloc _)
            have HBW : Hid (Below w.heap.size w (wr.alloc (.cells #[.int .i64 x0, .int .i64 x1, .int .i64 x2] 57))) := Lib.hid (alloc_below hB2)
            have HRW : Hid ((wr.alloc (.cells #[.int .i64 x0, .int .i64 x1, .int .i64 x2] 57)).ownsRow (w.heap.size + 1) 57 3 u2 F.length (F.flatMap encP)) := Lib.hid (HRW0.out.alloc _)
            have HNW : Hid (u2.ownBlock ≠ some BX) := HNE2
            have HFW : Hid (Firsts F (L0 ++ (Evt.pts (⟨k0, ps, ts, b, d, n, e0, ms, str⟩ : Ev)).take (j + 1))) := Lib.hid (by rw [pts_take HPX.out HTX.out, ← List.append_assoc]; exact HFS.out.old (of_decide_eq_true HMT.out))
            have HLN2 : Hid (F.length ≤ (L0 ++ (Evt.pts (⟨k0, ps, ts, b, d, n, e0, ms, str⟩ : Ev)).take (j + 1)).length) := Lib.hid (by rw [HLN.out]; have := HFL.out; omega)
            have hzW : w.heap.size < (wr.alloc (.cells #[.int .i64 x0, .int .i64 x1, .int .i64 x2] 57)).heap.size := by simp; omega
            clear hx2 hq3 hq0 hq1 hq2 HRW0 HOM0 HNE2 hB2 hbxl zb2
            generalize wr.alloc (.cells #[.int .i64 x0, .int .i64 x1, .int .i64 x2] 57) = w2 at *
            generalize wr.heap.size = BP at *
            cases c
            · obtain ⟨w7, hrun, hown7, hgrow7⟩ := (show OwnsM w2.drew w.heap.size (L0 ++ (Evt.pts (⟨k0, ps, ts, b, d, n, e0, ms, str⟩ : Ev)).take j).length D from HOM.out.drew).update keyedP Tryd.underlying142 (by unfold maxLen; omega) (key_of HPR.out) (storeBool t)
              have hrun' : (Instr.mapUpdate 142 (.map (some w.heap.size)) (.agg #[.int .i64 x0, .int .i64 x1, .int .i64 x2]) (.bool t)).run Tryd.prog w2.drew = .ok () w7 := hrun
              have HM7 : Hid (OwnsM w7 w.heap.size ((L0 ++ (Evt.pts (⟨k0, ps, ts, b, d, n, e0, ms, str⟩ : Ev)).take j).length + 1) (D.put (kl (x0, x1, x2)) (tB t))) := Lib.hid hown7
              have HG7 := Lib.hid hgrow7
              clear hown7 hgrow7 hrun
              go_region
              all_goals
                have hx7 : w7.cell? ⟨BX, 2, none⟩ = some (.slice (some ⟨b3, o3, none⟩) ts.length c2) := HG7.out.cell (cell_drew hx2') (by intro e; have : BX = w.heap.size := Option.some.inj e; omega)
                have HB7 : Hid (Below w.heap.size w w7) := Lib.hid (Below.grown (HBW.out).drew HG7.out (Nat.le_of_lt hzW) (fun k hk => by cases hk; exact Nat.le_refl _))
                have HR7 : Hid (w7.ownsRow (w.heap.size + 1) 57 3 u2 F.length (F.flatMap encP)) := Lib.hid ((show w2.drew.ownsRow (w.heap.size + 1) 57 3 u2 F.length (F.flatMap encP) from HRW.out).kept HG7.out (Or.inr (fun e => by have := (HRW.out.lt _ e).1; omega)))
                have hz7 : w.heap.size < w7.heap.size := Nat.lt_of_lt_of_le hzW HG7.out.size
                have HMI : Hid (MapIs (D.put (kl (x0, x1, x2)) (tB t)) (L0 ++ (Evt.pts (⟨k0, ps, ts, b, d, n, e0, ms, str⟩ : Ev)).take (j + 1))) := Lib.hid (by
                  have := HMS.out.step HPR.out t
                  rw [HTI.out, List.append_assoc, ← pts_take HPX.out HTX.out] at this
                  exact this)
                clear hrun'
                go_wp2
                go_roundw
                case rel => exact ⟨j + 1, by show j + 1 ≤ ps.length; omega, by go_num, ⟨_, _, HFW.out, HLN2.out, HMI.out, HR7.out, by rw [HLN.out]; exact HM7.out, hz7, HB7.out⟩, hx7, HNW.out⟩
                case measure => simp [intOf]; omega
            · obtain ⟨w7, hrun, hown7, hgrow7⟩ := (show OwnsM w2.drew w.heap.size (L0 ++ (Evt.pts (⟨k0, ps, ts, b, d, n, e0, ms, str⟩ : Ev)).take j).length D from HOM.out.drew).update keyedP Tryd.underlying142 (by unfold maxLen; omega) (key_of HPR.out) (storeBool true)
              have hrun' : (Instr.mapUpdate 142 (.map (some w.heap.size)) (.agg #[.int .i64 x0, .int .i64 x1, .int .i64 x2]) (.bool true)).run Tryd.prog w2.drew = .ok () w7 := hrun
              have HM7 : Hid (OwnsM w7 w.heap.size ((L0 ++ (Evt.pts (⟨k0, ps, ts, b, d, n, e0, ms, str⟩ : Ev)).take j).length + 1) (D.put (kl (x0, x1, x2)) (tB true))) := Lib.hid hown7
              have HG7 := Lib.hid hgrow7
              clear hown7 hgrow7 hrun
              go_region
              all_goals
                have hx7 : w7.cell? ⟨BX, 2, none⟩ = some (.slice (some ⟨b3, o3, none⟩) ts.length c2) := HG7.out.cell (cell_drew hx2') (by intro e; have : BX = w.heap.size := Option.some.inj e; omega)
                have HB7 : Hid (Below w.heap.size w w7) := Lib.hid (Below.grown (HBW.out).drew HG7.out (Nat.le_of_lt hzW) (fun k hk => by cases hk; exact Nat.le_refl _))
                have HR7 : Hid (w7.ownsRow (w.heap.size + 1) 57 3 u2 F.length (F.flatMap encP)) := Lib.hid ((show w2.drew.ownsRow (w.heap.size + 1) 57 3 u2 F.length (F.flatMap encP) from HRW.out).kept HG7.out (Or.inr (fun e => by have := (HRW.out.lt _ e).1; omega)))
                have hz7 : w.heap.size < w7.heap.size := Nat.lt_of_lt_of_le hzW HG7.out.size
                have HMI : Hid (MapIs (D.put (kl (x0, x1, x2)) (tB true)) (L0 ++ (Evt.pts (⟨k0, ps, ts, b, d, n, e0, ms, str⟩ : Ev)).take (j + 1))) := Lib.hid (by
                  have := HMS.out.step HPR.out t
                  rw [HTI.out, List.append_assoc, ← pts_take HPX.out HTX.out] at this
                  exact this)
                clear hrun'
                go_wp2
                go_roundw
                case rel => exact ⟨j + 1, by show j + 1 ≤ ps.length; omega, by go_num, ⟨_, _, HFW.out, HLN2.out, HMI.out, HR7.out, by rw [HLN.out]; exact HM7.out, hz7, HB7.out⟩, hx7, HNW.out⟩
                case measure => simp [intOf]; omega
        · obtain rfl : j = ps.length := by omega
          have HAPN : Hid (AP w wr u2 (flE (ys.take (k + 1)))) := Lib.hid (by
            rw [HF1.out]
            have e := pts_all HYA.out
            dsimp only at e
            rw [e] at HFS HFL HMS HOM0
            exact ⟨F, D, HFS.out, HFL.out, HMS.out, HRW0.out, HOM0.out, hzr2, hB2⟩)
          go_wp2
          go_roundw
          case rel => exact ⟨k + 1, by omega, by go_num, HAPN.out⟩
          case measure => simp [intOf]; omega
    · obtain rfl : k = ys.length := by omega
      have HAPN : Hid (AP w wr u2 (flE ys)) := Lib.hid (by have := HAP.out; rwa [List.take_length] at this)
      obtain ⟨F, D, hfs, hfl, hmi, hrow, hom, hz, hB⟩ := HAPN.out
      have hLn : (flE ys).length ≤ 800000 := Nat.le_trans (flE_len HA.out) (by omega)
      have hFn : F.length ≤ 800000 := Nat.le_trans hfl hLn
      have hFr : ∀ q ∈ F, Evt.rgt q = true := fun q hq => by
        obtain ⟨x, hx, e⟩ := List.mem_map.1 ((hfs.mem q).1 hq)
        rw [← e]; exact flE_rgt HA.out x hx
      have HSORT := Lib.hid (sortRow hR hB hrow (List.all_eq_true.2 hFr) (by omega))
      have HOB : Hid (∀ b, u2.ownBlock = some b → w.heap.size + 1 ≤ b) := Lib.hid (fun b hb => (hrow.lt b hb).1)
      have HOW0 := Lib.hid (own_row hrow)
      obtain ⟨pu, cu, rfl, _⟩ := sl_shape (row_sl lenP rfl (by omega) hrow)
      have HFS := Lib.hid hfs
      have HMS := Lib.hid hmi
      have HOM := Lib.hid hom
      have HFR := Lib.hid hFr
      have HLN := Lib.hid hFn
      clear hfs hfl hmi hrow hom hFr hLn HAPN HAP
      go_wp2_with fail
      refine (HSORT.out).mono ?_
      rintro e w3 ⟨rfl, S, hperm, hsrt, hgr, hps⟩
      have HPS := Lib.hid hps
      have HSL : Hid (S.length = F.length) := Lib.hid hperm.length_eq
      have HB3 : Hid (Below w.heap.size w w3) := Lib.hid (hB.grown hgr (Nat.le_of_lt hz) (fun b hb => Nat.le_of_succ_le (HOB.out b hb)))
      have HOM3 : Hid (OwnsM w3 w.heap.size (flE ys).length D) := Lib.hid (HOM.out.kept hgr (fun e => by have := HOB.out _ e.symm; omega))
      have HSR : Hid (∀ q ∈ S, Evt.rgt q = true) := Lib.hid (fun q hq => HFR.out q (hperm.mem_iff.1 hq))
      have HIS : Hid ((Evt.allP (ys.map Prod.fst)).map Prod.fst = S ∧ (Evt.allP (ys.map Prod.fst)).map Prod.snd = S.map (tie (flE ys))) := Lib.hid (Evt.allP_is (flE_rgt HA.out) (asc_of HFS.out.nodup HFR.out hperm hsrt) (fun q => hperm.mem_iff.trans (HFS.out.mem q)))
      have hz3 : w.heap.size < w3.heap.size := Nat.lt_of_lt_of_le hz hgr.size
      clear hps hperm hsrt hgr hB hz HSORT HOM HFS
      obtain ⟨j0, hj1, hj2, hj3, hj4⟩ := info_parts infoB
      go_wp2
      go_loopw [3, 56] (fun v i wr2 => CRel S (tie (flE ys)) w3 v i wr2) (fun _ i _ => F.length - (intOf i).toNat)
      case atStart => exact ⟨0, Nat.zero_le _, rfl, World.ownsRow_nil _ _ _ _, Below.refl _ _⟩
      case round =>
        obtain ⟨k, hk, rfl, hown, hB4⟩ := hrel
        have HO := Lib.hid hown
        clear hown
        have hkF : k ≤ F.length := by rw [← HSL.out]; exact hk
        have hFn := HLN.out
        by_cases hlt : k < F.length
        · obtain ⟨p, hp⟩ : ∃ p, S[k]? = some p := ⟨_, List.getElem?_eq_getElem (by rw [HSL.out]; exact hlt)⟩
          obtain ⟨b2, o2, e2, hq0, hq1, hq2⟩ := pits_at HPS.out hp
          have HPR : Hid (Evt.rgt p = true) := Lib.hid (HSR.out p (List.mem_of_getElem? hp))
          subst e2
          replace hq0 := cell_later hB4 hq0
          replace hq1 := cell_later hB4 hq1
          replace hq2 := cell_later hB4 hq2
          have HX := Lib.hid hp
          have hlt' : (k : Int) < (F.length : Int) := by omega
          clear hp
          obtain ⟨x0, x1, x2⟩ := p
          dsimp only at hq0 hq1 hq2
          obtain ⟨c, hc⟩ : ∃ c, tie (flE ys) (x0, x1, x2) = c := ⟨_, rfl⟩
          have HAT : Hid (D.atKey (kl (x0, x1, x2)) (tB false) = tB c) := Lib.hid (by rw [HMS.out.at_ _ HPR.out, hc])
          have HTC := Lib.hid hc
          have HOM4 := Lib.hid (ownsM_later HOM3.out hB4)
          have hz4 := hB4.size
          clear hc
          go_wp2_with (first
            | (at_lookup; refine wpList_look _ rfl _ _ 142 rfl Tryd.underlying142 w.heap.size _ D rfl (HOM4.out.alloc _) (x0, x1, x2) HPR.out rfl c HAT.out ?_)
            | (at_builtin; refine wpList_append_own _ rfl _ _ 23 rfl w3.heap.size 4 j0 (.bool false) 1 1 Tryd.underlying23 hj1 hj2 hj3 hj4 rfl (by decide) _ _ _ rfl ((HO.out.alloc _).alloc _) ⟨wr.heap.size + 1, 0, none⟩ 1 1 [.bool c] rfl rfl (cells1_new _ _ _ (by simp)) (by intro u hu; simp at hu; subst hu; rfl) (by unfold maxLen; omega) (by omega) (by simp; omega) ?_; intro v' w4 hown4 hgr4 _)
            | fail)
          have hsz4 : w3.heap.size ≤ ((wr.alloc (.cells #[.int .i64 x0, .int .i64 x1, .int .i64 x2] 57)).alloc (.cells #[.bool c] 4)).heap.size := by simp; omega
          have HB5 : Hid (Below w3.heap.size w3 w4) := Lib.hid ((alloc_below (alloc_below hB4)).grown hgr4 hsz4 (fun b hb => (HO.out.lt b hb).1))
          have HO5 : Hid (w4.ownsRow w3.heap.size 4 1 v' (k + 1) (((S.take (k + 1)).map (tie (flE ys))).flatMap encB)) := Lib.hid (by
            rw [take_succ_at HX.out, List.map_append, List.flatMap_append, List.map_singleton, HTC.out]
            simpa [encB] using hown4)
          clear hown4 hgr4 hsz4
          go_wp2
          go_roundw
          case rel => exact ⟨k + 1, by rw [HSL.out]; omega, by go_num, HO5.out, HB5.out⟩
          case measure => simp [intOf]; omega
        · obtain rfl : k = F.length := by omega
          have HV : Hid (Bools wr u3 ((Evt.allP (ys.map Prod.fst)).map Prod.snd)) := Lib.hid (by
            have h1 := HO.out
            rw [List.take_of_length_le (by rw [HSL.out]; exact Nat.le_refl _)] at h1
            rw [HIS.out.2]
            exact row_sl lenB (by rw [List.length_map, HSL.out]) (by rw [List.length_map, HSL.out]; omega) h1)
          have HP2 := Lib.hid (HPS.out.later hB4)
          have HW := Lib.hid ((own_row HO.out).mono (Nat.le_of_lt hz3))
          go_wp2
          go_ret2
          exact ⟨⟨_, _, rfl, by rw [HIS.out.1]; exact HP2.out, HV.out, HOW0.out.mono (by omega), HW.out⟩, HB3.out.trans (hB4.mono (Nat.le_of_lt hz3))⟩
end Go.Proofs.YtnfnonlbokddfaaDoor
