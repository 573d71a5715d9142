/-
  MeterBeats answers true: the law's walk.
-/
import Derived.Test.YtlodhfdikglgoaaMetLaw
import Derived.LoopN
import Derived.Deep.DeepCutAuto
import Derived.Deep.RegionHeld3
import Derived.BigQuiet
import Derived.Lib.QuietBelow
namespace Go.Proofs.Ytlodhfdikglgoaa
open Go.RowKit

def BRel (G : List Int) (nb : Nat) (w0 : World) (h i : Value) (wr : World) : Prop := ∃ (j : Nat) (A : Int), j ≤ nb ∧ i = .int .i64 (j : Int) ∧ Hid (Met.ah G j = A) ∧ h = .int .i64 A ∧ 0 ≤ A ∧ A ≤ 32 ∧ Below w0.heap.size w0 wr

theorem is_mul {p : Met.Pr} {g D : Int} (h : Met.Is p g D) (hD : D ≤ 64) (g1 : 1 ≤ g) (g2 : g ≤ 32) : Met.ml p (D, 1) = (g, 1) ∧ Met.mlE p (D, 1) = 0 := by
  have hd := h.D1
  have hM := Rat.M_eq
  have r1 : Rat.IsRight D 1 := ⟨by omega, by omega, by omega, by omega, by simp⟩
  have r2 : Rat.IsRight g 1 := ⟨by omega, by omega, by omega, by omega, by simp⟩
  obtain ⟨x, y, z⟩ := bin_eq (n := p.1 * D) (m := p.2 * 1) h.r r1 (mul_ne h.r.ne (by decide)) r2 (by have := h.e; grind)
  exact ⟨Prod.ext x y, z⟩

set_option maxRecDepth 100000 in
set_option maxHeartbeats 4000000 in
theorem meterBeats_true (a b : Int) (v : Value) (gs : List Int) (w : World) (hI : Ints w v gs) (ia : Rat.I64 a) (ib : Rat.I64 b) (hgs : ∀ z ∈ gs, Rat.I64 z) : LawHolds 4 #[mt a b v, .bool true] w := by
  unfold LawHolds
  obtain ⟨px, cx, rfl, hlx, hcx⟩ := hI
  have HX : Hid (Ints w (.slice px gs.length cx) gs) := Lib.hid ⟨px, cx, rfl, hlx, hcx⟩
  clear hlx hcx
  have HGS := Lib.hid hgs
  clear hgs
  obtain ⟨N, HN⟩ : ∃ N, Hid (mkN a = N) := ⟨_, Lib.hid rfl⟩
  obtain ⟨D, HD⟩ : ∃ D, Hid (mkD b = D) := ⟨_, Lib.hid rfl⟩
  obtain ⟨X, HXX⟩ : ∃ X, Hid (Met.of N D = X) := ⟨_, Lib.hid rfl⟩
  obtain ⟨l0, l1⟩ := X
  have hgR := guardR
  have heR := eql_rt
  have hnR := neq_rt
  have hsR := eqR_self
  have hB0 : Below w.heap.size w w := Below.refl _ _
  go_enter Try.func4, Try.ntmps4
  go_wp2_with fail
  refine (awake_any _).mono ?_
  rintro e w1 ⟨rfl, hb1⟩
  have hs1 : Below w.heap.size w w1 := Below.trans (by repeat (first | exact Below.refl _ _ | refine Below.alloc ?_ (by simp <;> omega) _)) (hb1.mono (by simp <;> omega))
  have c_x_0 : w1.cell? ⟨w.heap.size, 0, none⟩ = some (.int .i64 a) := (hb1.cell (by simp <;> omega)).trans (by go_simp)
  have c_x_1 : w1.cell? ⟨w.heap.size, 1, none⟩ = some (.int .i64 b) := (hb1.cell (by simp <;> omega)).trans (by go_simp)
  have c_x_2 : w1.cell? ⟨w.heap.size, 2, none⟩ = some (.slice px gs.length cx) := (hb1.cell (by simp <;> omega)).trans (by go_simp)
  have z_x := World.block_lt_of_cell? _ _ c_x_0
  have hB1 := below_two hB0 hs1
  clear hB0 hs1 hb1
  go_wp2_with fail
  have hs2 : Below w1.heap.size w1 w1 := by repeat (first | exact Below.refl _ _ | refine Below.alloc ?_ (by simp <;> omega) _)
  replace c_x_0 := cell_later hs2 c_x_0
  replace c_x_1 := cell_later hs2 c_x_1
  replace c_x_2 := cell_later hs2 c_x_2
  have hB2 := below_two hB1 hs2
  clear hB1 hs2
  have y2_x := z_x
  generalize w1 = w2 at *
  clear z_x
  have z_x := World.block_lt_of_cell? _ _ c_x_0
  go_wp2_with fail
  refine (meterL HN.out HD.out _ gs _ (HX.out.later hB2) ia ib HGS.out true).mono ?_
  rintro e w3 ⟨⟨um, rfl, lm, him, hrm, hzm⟩, hb3⟩
  have hs3 := hb3
  replace c_x_0 := cell_later hs3 c_x_0
  replace c_x_1 := cell_later hs3 c_x_1
  replace c_x_2 := cell_later hs3 c_x_2
  clear z_x
  have z_x := World.block_lt_of_cell? _ _ c_x_0
  have hB3 := below_two hB2 hs3
  clear hB2 hs3
  obtain ⟨pm, cm, rfl, hlm, hcm⟩ := him
  have HIm : Hid (Ints _ (.slice pm lm.length cm) lm) := Lib.hid ⟨pm, cm, rfl, hlm, hcm⟩
  have HRm := Lib.hid hrm
  clear hcm hrm
  go_wp2_with fail
  have hs4 : Below w3.heap.size w3 (w3.alloc (.cells #[.int .i64 N, .int .i64 D, .slice pm lm.length cm] 24)) := by repeat (first | exact Below.refl _ _ | refine Below.alloc ?_ (by simp <;> omega) _)
  clear c_x_0
  clear c_x_1
  clear c_x_2
  replace HIm := Lib.hid (HIm.out.later hs4)
  have c_m_0 : (w3.alloc (.cells #[.int .i64 N, .int .i64 D, .slice pm lm.length cm] 24)).cell? ⟨w3.heap.size, 0, none⟩ = some (.int .i64 N) := by go_simp
  have c_m_1 : (w3.alloc (.cells #[.int .i64 N, .int .i64 D, .slice pm lm.length cm] 24)).cell? ⟨w3.heap.size, 1, none⟩ = some (.int .i64 D) := by go_simp
  have c_m_2 : (w3.alloc (.cells #[.int .i64 N, .int .i64 D, .slice pm lm.length cm] 24)).cell? ⟨w3.heap.size, 2, none⟩ = some (.slice pm lm.length cm) := by go_simp
  have hB4 := below_two hB3 hs4
  clear hB3 hs4
  have y4_x := z_x
  generalize (w3.alloc (.cells #[.int .i64 N, .int .i64 D, .slice pm lm.length cm] 24)) = w4 at *
  have z_m := World.block_lt_of_cell? _ _ c_m_0
  clear z_x
  have HRR := Lib.hid (Met.isRight HRm.out)
  have n1 := HRR.out.n1
  have n32 := HRR.out.n32
  have d1 := HRR.out.d1
  have d64 := HRR.out.d64
  have hG := HRR.out.len
  obtain ⟨hG1, hG2⟩ := hG
  obtain ⟨nb, HNB⟩ : ∃ nb, Hid ((Met.bt N D lm).length = nb) := ⟨_, Lib.hid rfl⟩
  have hnb : (Met.grp N D lm).length = nb := by rw [← HNB.out, Met.bt, Met.bts_length]
  rw [hnb] at hG1 hG2
  go_wp2_with fail
  refine (beats_right HIm.out HRm.out rfl).mono ?_
  rintro e w5 ⟨⟨ub, rfl, hPb⟩, hb5⟩
  have hs5 := hb5
  replace HIm := Lib.hid (HIm.out.later hs5)
  replace c_m_0 := cell_later hs5 c_m_0
  replace c_m_1 := cell_later hs5 c_m_1
  replace c_m_2 := cell_later hs5 c_m_2
  clear z_m
  have z_m := World.block_lt_of_cell? _ _ c_m_0
  have hB5 := below_two hB4 hs5
  clear hB4 hs5
  obtain ⟨pb, cb, rfl, hpl, hpc⟩ := hPb
  have HPB : Hid (Prs _ (.slice pb (Met.bt N D lm).length cb) (Met.bt N D lm)) := Lib.hid ⟨pb, cb, rfl, hpl, hpc⟩
  obtain ⟨bb, bo, rfl⟩ : ∃ b o, pb = some ⟨b, o, none⟩ := by
    obtain ⟨b, o, e, _⟩ := hpc 0 _ (Met.bts_at (by rw [hnb]; omega))
    exact ⟨b, o, e⟩
  clear hpl hpc
  rw [HNB.out] at HPB ⊢
  go_wp2_with fail
  refine (mlength_right HIm.out HRm.out HXX.out).mono ?_
  rintro e w6 ⟨rfl, hb6⟩
  have hs6 := hb6
  replace HIm := Lib.hid (HIm.out.later hs6)
  replace HPB := Lib.hid (HPB.out.later hs6)
  replace c_m_0 := cell_later hs6 c_m_0
  replace c_m_1 := cell_later hs6 c_m_1
  replace c_m_2 := cell_later hs6 c_m_2
  clear z_m
  have z_m := World.block_lt_of_cell? _ _ c_m_0
  have hB6 := below_two hB5 hs6
  clear hB5 hs6
  have HAT : Hid (∀ w (k : Nat), Prs w (.slice (some ⟨bb, bo, none⟩) nb cb) (Met.bt N D lm) → k < nb → w.cell? ⟨bb, bo + k * 2, none⟩ = some (.int .i64 (Met.of (Met.ah (Met.grp N D lm) k) D).1) ∧ w.cell? ⟨bb, bo + k * 2 + 1, none⟩ = some (.int .i64 (Met.of (Met.ah (Met.grp N D lm) k) D).2)) := Lib.hid (fun w k hP hk => by
    obtain ⟨p', c', e, _, hc⟩ := hP
    obtain ⟨b', o', e2, h1, h2⟩ := hc k _ (Met.bts_at (by rw [hnb]; exact hk))
    subst e2
    cases e
    exact ⟨h1, h2⟩)
  obtain ⟨q0, q1⟩ := HAT.out w6 0 HPB.out (by omega)
  rw [show Met.of (Met.ah (Met.grp N D lm) 0) D = (0, 1) from Met.Is.unique (HRR.out.beat (by rw [hnb]; omega)) ⟨⟨by decide, by decide, by decide, by decide, by decide⟩, d1, by rw [Met.ah_zero]; simp⟩] at q0 q1
  simp only [Nat.zero_mul, Nat.add_zero] at q0 q1
  have hnz : ((nb : Int) == 0) = false := beq_eq_false_iff_ne.2 (by omega)
  have hnpos : (0 : Int) < (nb : Int) := by omega
  have z_bz := World.block_lt_of_cell? _ _ q0
  go_wp2_with fail
  have hs7 : Below w6.heap.size w6 (w6.alloc (.cells #[.int .i64 l0, .int .i64 l1] 26)) := by repeat (first | exact Below.refl _ _ | refine Below.alloc ?_ (by simp <;> omega) _)
  replace HIm := Lib.hid (HIm.out.later hs7)
  replace HPB := Lib.hid (HPB.out.later hs7)
  replace c_m_0 := cell_later hs7 c_m_0
  replace c_m_1 := cell_later hs7 c_m_1
  replace c_m_2 := cell_later hs7 c_m_2
  replace q0 := cell_later hs7 q0
  replace q1 := cell_later hs7 q1
  have c_l_0 : (w6.alloc (.cells #[.int .i64 l0, .int .i64 l1] 26)).cell? ⟨w6.heap.size, 0, none⟩ = some (.int .i64 l0) := by go_simp
  have c_l_1 : (w6.alloc (.cells #[.int .i64 l0, .int .i64 l1] 26)).cell? ⟨w6.heap.size, 1, none⟩ = some (.int .i64 l1) := by go_simp
  have hB7 := below_two hB6 hs7
  clear hB6 hs7
  have y7_bz := z_bz
  have y7_m := z_m
  generalize (w6.alloc (.cells #[.int .i64 l0, .int .i64 l1] 26)) = w7 at *
  clear z_bz
  have z_bz := World.block_lt_of_cell? _ _ q0
  have z_l := World.block_lt_of_cell? _ _ c_l_0
  clear z_m
  have z_m := World.block_lt_of_cell? _ _ c_m_0
  have hne : lm ≠ [] := by rintro rfl; simp at hzm
  have hgg : Met.grp N D lm = lm := by unfold Met.grp; rw [if_neg (by intro e; exact hne (List.length_eq_zero_iff.1 e))]
  have hln : lm.length = nb := by rw [hgg] at hnb; exact hnb
  have HGG := Lib.hid hgg
  have HLN := Lib.hid hln
  clear hgg hne hzm hln
  clear hlm hnz hnpos q0 q1
  go_loopw [11, 12] (fun h i wr => BRel (Met.grp N D lm) nb w7 h i wr) (fun _ i _ => nb - (intOf i).toNat)
  case atStart => exact ⟨0, 0, by omega, rfl, Lib.hid rfl, rfl, by omega, by omega, Below.refl _ _⟩
  case round =>
    obtain ⟨k, A, hk, rfl, HA, rfl, hA0, hA1, hBr⟩ := hrel
    have c0 := cell_later hBr c_m_0
    have c1 := cell_later hBr c_m_1
    have c2 := cell_later hBr c_m_2
    have e0 := cell_later hBr c_l_0
    have e1 := cell_later hBr c_l_1
    have HIr := Lib.hid (HIm.out.later hBr)
    have HPr := Lib.hid (HPB.out.later hBr)
    have zm := World.block_lt_of_cell? _ _ c0
    have zl := World.block_lt_of_cell? _ _ e0
    simp only at zm zl
    clear c_m_0 c_m_1 c_m_2 c_l_0 c_l_1 z_m z_l z_bz
    by_cases hlt : k < nb
    · have hlt' : (k : Int) < (nb : Int) := by omega
      obtain ⟨b0, b1⟩ := HAT.out wr k HPr.out hlt
      have zb := World.block_lt_of_cell? _ _ b0
      simp only at zb
      obtain ⟨g, hg⟩ : ∃ g, (Met.grp N D lm)[k]? = some g := ⟨_, List.getElem?_eq_getElem (by rw [hnb]; exact hlt)⟩
      obtain ⟨g1, g2⟩ := HRR.out.g_bounds hg
      have hah := Met.ah_succ hg
      have HG := Lib.hid hg
      rw [HA.out] at g2 hah
      have iY : Met.Is (Met.of (Met.ah (Met.grp N D lm) k) D) A D := by rw [HA.out]; exact Met.is_of d1 (by omega) (by omega) (by omega)
      have iZ : Met.Is (Met.of (A + g) D) (A + g) D := Met.is_of d1 (by omega) (by omega) (by omega)
      obtain ⟨f0, f1⟩ := iZ.sb iY (by omega) (by omega) (by omega)
      rw [show A + g - A = g by omega] at f1
      have fm := is_mul f1 d64 g1 (by omega)
      obtain ⟨Y, HY⟩ : ∃ Y, Hid (Met.of (Met.ah (Met.grp N D lm) k) D = Y) := ⟨_, Lib.hid rfl⟩
      obtain ⟨Z, HZ⟩ : ∃ Z, Hid (Met.of (A + g) D = Z) := ⟨_, Lib.hid rfl⟩
      rw [HY.out] at b0 b1 f0 f1 fm
      rw [HZ.out] at f0 f1 fm
      obtain ⟨y0, y1⟩ := Y
      obtain ⟨n0, n1'⟩ := Z
      obtain ⟨SS, HSS⟩ : ∃ SS, Hid (Met.sb (n0, n1') (y0, y1) = SS) := ⟨_, Lib.hid rfl⟩
      rw [HSS.out] at f1 fm
      obtain ⟨s0, s1⟩ := SS
      have HF0 := Lib.hid f0
      have HFM := Lib.hid fm
      dsimp only at b0 b1
      clear f0 f1 fm iY iZ hg
      by_cases hlt2 : k + 1 < nb
      · have hlt2' : (k : Int) + 1 < (nb : Int) := by omega
        obtain ⟨d0, d1'⟩ := HAT.out wr (k + 1) HPr.out hlt2
        rw [hah, HZ.out] at d0 d1'
        dsimp only at d0 d1'
        clear hah
        go_upto_region 14 with fail
        clear d0 d1'
        have k0 : (wr.alloc (.cells #[.int .i64 n0, .int .i64 n1'] 26)).cell? ⟨wr.heap.size, 0, none⟩ = some (.int .i64 n0) := by go_simp
        have k1 : (wr.alloc (.cells #[.int .i64 n0, .int .i64 n1'] 26)).cell? ⟨wr.heap.size, 1, none⟩ = some (.int .i64 n1') := by go_simp
        have hal : Below wr.heap.size wr (wr.alloc (.cells #[.int .i64 n0, .int .i64 n1'] 26)) := (Below.refl _ _).alloc (Nat.le_refl _) _
        replace b0 := cell_later hal b0
        replace b1 := cell_later hal b1
        replace c0 := cell_later hal c0
        replace c1 := cell_later hal c1
        replace c2 := cell_later hal c2
        replace HIr := Lib.hid (HIr.out.later hal)
        replace hBr := below_two hBr hal
        clear hal e0 e1 zm zl zb HPr
        generalize wr.alloc (.cells #[.int .i64 n0, .int .i64 n1'] 26) = wa at *
        generalize wr.heap.size = KN at *
        have zk := World.block_lt_of_cell? _ _ k0
        have zb := World.block_lt_of_cell? _ _ b0
        have zm := World.block_lt_of_cell? _ _ c0
        simp only at zk zb zm
        have hBr0 : Below wa.heap.size wa wa := Below.refl _ _
        go_cut [14, 15] (fun p e wx => AtR s0 s1 wa p wx ∧ e = .int .i64 0)
        case first =>
          have RA : Hid (∀ u, Below (wa.alloc (.cells #[.int .i64 0, .int .i64 0] 26)).drew.heap.size (wa.alloc (.cells #[.int .i64 0, .int .i64 0] 26)).drew u → u.cell? ⟨wa.heap.size, 0, none⟩ = some (.int .i64 0) ∧ u.cell? ⟨wa.heap.size, 1, none⟩ = some (.int .i64 0) ∧ u.frozen? ⟨wa.heap.size, 0, none⟩ = false ∧ u.frozen? ⟨wa.heap.size, 1, none⟩ = false ∧ Below wa.heap.size wa u) := Lib.hid (fun u hq => by
            have e0 : (wa.alloc (.cells #[.int .i64 0, .int .i64 0] 26)).drew.cell? ⟨wa.heap.size, 0, none⟩ = some (.int .i64 0) := cell_drew (by go_simp)
            have e1 : (wa.alloc (.cells #[.int .i64 0, .int .i64 0] 26)).drew.cell? ⟨wa.heap.size, 1, none⟩ = some (.int .i64 0) := cell_drew (by go_simp)
            exact ⟨cell_later hq e0, cell_later hq e1, frozen_later hq e0 (frozen_drew (by go_simp)), frozen_later hq e1 (frozen_drew (by go_simp)), below_two (alloc_below hBr0).drew hq⟩)
          have RB : Hid (∀ u, Below wa.drew.heap.size wa.drew u → u.cell? ⟨KN, 0, none⟩ = some (.int .i64 n0) ∧ u.cell? ⟨KN, 1, none⟩ = some (.int .i64 n1') ∧ u.cell? ⟨bb, bo + k * 2, none⟩ = some (.int .i64 y0) ∧ u.cell? ⟨bb, bo + k * 2 + 1, none⟩ = some (.int .i64 y1) ∧ Below wa.heap.size wa u) := Lib.hid (fun u hq => ⟨cell_later hq (cell_drew k0), cell_later hq (cell_drew k1), cell_later hq (cell_drew b0), cell_later hq (cell_drew b1), below_two hBr0.drew hq⟩)
          clear c0 c1 c2 HAT
          go_region_held3 (fun w' => w'.cell? ⟨KN, 0, none⟩ = some (.int .i64 n0) ∧ w'.cell? ⟨KN, 1, none⟩ = some (.int .i64 n1') ∧ w'.cell? ⟨bb, bo + k * 2, none⟩ = some (.int .i64 y0) ∧ w'.cell? ⟨bb, bo + k * 2 + 1, none⟩ = some (.int .i64 y1) ∧ Below wa.heap.size wa w')
            (((try go_split_ands); refine ⟨?_, ?_, ?_, ?_, ?_⟩ <;> first | with_reducible assumption | (with_reducible refine cell_later hq ?_; with_reducible assumption) | (with_reducible refine below_two ?_ hq; with_reducible assumption) | (with_reducible refine alloc_cell ?_; with_reducible assumption) | (with_reducible refine alloc_below ?_; with_reducible assumption) | (with_reducible refine set_far ?_ (set_far ?_ ?_); omega; omega; with_reducible assumption) | (with_reducible refine put2_below ?_ ?_; with_reducible assumption; omega) | with_reducible exact cell_drew k0 | with_reducible exact cell_drew k1 | with_reducible exact cell_drew b0 | with_reducible exact cell_drew b1 | with_reducible exact hBr0.drew | with_reducible exact cell_drew (alloc_cell k0) | with_reducible exact cell_drew (alloc_cell k1) | with_reducible exact cell_drew (alloc_cell b0) | with_reducible exact cell_drew (alloc_cell b1) | with_reducible exact (alloc_below hBr0).drew))
            (first
              | (go_at_call 26; first
                  | (with_reducible refine (subL HSS.out HF0.out wa.drew).mono ?_; rintro ed u5 ⟨rfl, hq⟩; obtain ⟨n_k0, n_k1, n_b0, n_b1, hb5⟩ := RB.out _ hq)
                  | (with_reducible refine (subL HSS.out HF0.out (wa.alloc (.cells #[.int .i64 0, .int .i64 0] 26)).drew).mono ?_; rintro ed u5 ⟨rfl, hq⟩; obtain ⟨r_0, r_1, f_0, f_1, hb5⟩ := RA.out _ hq)))
          all_goals (first
            | (go_wp2_with fail; go_meet; case rel => exact ⟨⟨_, rfl, (put2_of r_0 r_1).1, (put2_of r_0 r_1).2, put2_below hb5 (by omega)⟩, rfl⟩)
            | (go_wp2_with fail; go_meet; case rel => exact ⟨⟨_, rfl, by go_simp, by go_simp, alloc_below hb5⟩, rfl⟩))
        case rest =>
          obtain ⟨⟨A1, rfl, x0, x1, hBx⟩, rfl⟩ := hcut
          replace c0 := cell_later hBx c0
          replace c1 := cell_later hBx c1
          replace c2 := cell_later hBx c2
          replace HIr := Lib.hid (HIr.out.later hBx)
          replace hBr := below_two hBr hBx
          clear hBx hBr0 k0 k1 b0 b1 zk zb zm
          go_wp2_with fail
          refine (mulL HFM.out.1 HFM.out.2 _).mono ?_
          rintro ed w8 ⟨rfl, hb8⟩
          replace c0 := cell_later hb8 c0
          replace c1 := cell_later hb8 c1
          replace c2 := cell_later hb8 c2
          replace HIr := Lib.hid (HIr.out.later hb8)
          replace hBr := below_two hBr hb8
          clear hb8 x0 x1
          have zm := World.block_lt_of_cell? _ _ c0
          simp only at zm
          have hgl : ¬ g < 1 := by omega
          go_upto_region 18 with fail
          have k0 : (w8.alloc (.cells #[.int .i64 g, .int .i64 1] 26)).cell? ⟨w8.heap.size, 0, none⟩ = some (.int .i64 g) := by go_simp
          have hal : Below w8.heap.size w8 (w8.alloc (.cells #[.int .i64 g, .int .i64 1] 26)) := (Below.refl _ _).alloc (Nat.le_refl _) _
          replace c0 := cell_later hal c0
          replace c1 := cell_later hal c1
          replace c2 := cell_later hal c2
          replace HIr := Lib.hid (HIr.out.later hal)
          replace hBr := below_two hBr hal
          clear hal zm
          generalize w8.alloc (.cells #[.int .i64 g, .int .i64 1] 26) = w9 at *
          generalize w8.heap.size = KG at *
          have zk := World.block_lt_of_cell? _ _ k0
          have zm := World.block_lt_of_cell? _ _ c0
          simp only at zk zm
          obtain ⟨p', c', e', _, hc'⟩ := HIr.out
          have hlk : lm[k]? = some g := by have := HG.out; rw [HGG.out] at this; exact this
          obtain ⟨bm, om, e2, hgc⟩ := hc' k g hlk
          cases e'
          subst e2
          have hk3 : (k : Int) < (lm.length : Int) := by rw [HLN.out]; omega
          have hk4 : decide ((lm.length : Int) ≤ (k : Int)) = false := decide_eq_false (by rw [HLN.out]; omega)
          have hk5 : decide (lm.length ≤ k) = false := decide_eq_false (by have := HLN.out; omega)
          have hk6 : ¬ lm.length ≤ k := by have := HLN.out; omega
          have hgn : (g != g) = false := by simp
          clear hc' hlk
          --QQ
          have g_c0 := fun dd os => cell_regrown c0 dd os
          have g_c1 := fun dd os => cell_regrown c1 dd os
          have g_c2 := fun dd os => cell_regrown c2 dd os
          have g_k0 := fun dd os => cell_regrown k0 dd os
          have g_hgc := fun dd os => cell_regrown hgc dd os
          refine wp_region_quiet_below (by kernel_rfl) (by kernel_rfl) ?_
          repeat (go_big_quiet_step (first | fail))
          refine wpQuiet_nil ?_
          intro _ hw'
          obtain ⟨⟨dq, osq⟩, hw''⟩ := hw'
          subst hw''
          replace c0 := g_c0 dq osq
          clear g_c0
          replace c1 := g_c1 dq osq
          clear g_c1
          replace c2 := g_c2 dq osq
          clear g_c2
          replace k0 := g_k0 dq osq
          clear g_k0
          replace hgc := g_hgc dq osq
          clear g_hgc
          have hb_wz := below_regrown w9 dq osq
          generalize Go.Sort.grow (redrawn w9 dq) osq = wz at *
          replace hBr := below_two hBr hb_wz
          clear hb_wz
          have HN2 : Hid (Met.ah (Met.grp N D lm) (k + 1) = A + g) := Lib.hid (by rw [Met.ah_succ HG.out, HA.out])
          go_wp2
          go_roundw
          case rel => exact ⟨k + 1, A + g, by omega, by go_num, HN2, rfl, by omega, by omega, hBr⟩
          case measure => simp [intOf]; omega
      · have hlt2' : ¬ (k : Int) + 1 < (nb : Int) := by omega
        obtain ⟨rfl, rfl⟩ : l0 = n0 ∧ l1 = n1' := by
          have e1 : k + 1 = (Met.grp N D lm).length := by rw [hnb]; omega
          have e2 := Met.ah_all (Met.grp N D lm)
          rw [← e1, hah, HRR.out.all] at e2
          have e3 := HXX.out
          rw [← e2, HZ.out] at e3
          cases e3
          exact ⟨rfl, rfl⟩
        clear hah
        go_upto_region 14 with fail
        have k0 : (wr.alloc (.cells #[.int .i64 l0, .int .i64 l1] 26)).cell? ⟨wr.heap.size, 0, none⟩ = some (.int .i64 l0) := by go_simp
        have k1 : (wr.alloc (.cells #[.int .i64 l0, .int .i64 l1] 26)).cell? ⟨wr.heap.size, 1, none⟩ = some (.int .i64 l1) := by go_simp
        have hal : Below wr.heap.size wr (wr.alloc (.cells #[.int .i64 l0, .int .i64 l1] 26)) := (Below.refl _ _).alloc (Nat.le_refl _) _
        replace b0 := cell_later hal b0
        replace b1 := cell_later hal b1
        replace c0 := cell_later hal c0
        replace c1 := cell_later hal c1
        replace c2 := cell_later hal c2
        replace HIr := Lib.hid (HIr.out.later hal)
        replace hBr := below_two hBr hal
        clear hal e0 e1 zm zl zb HPr
        generalize wr.alloc (.cells #[.int .i64 l0, .int .i64 l1] 26) = wa at *
        generalize wr.heap.size = KN at *
        have zk := World.block_lt_of_cell? _ _ k0
        have zb := World.block_lt_of_cell? _ _ b0
        have zm := World.block_lt_of_cell? _ _ c0
        simp only at zk zb zm
        have hBr0 : Below wa.heap.size wa wa := Below.refl _ _
        go_cut [14, 15] (fun p e wx => AtR s0 s1 wa p wx ∧ e = .int .i64 0)
        case first =>
          have RA : Hid (∀ u, Below (wa.alloc (.cells #[.int .i64 0, .int .i64 0] 26)).drew.heap.size (wa.alloc (.cells #[.int .i64 0, .int .i64 0] 26)).drew u → u.cell? ⟨wa.heap.size, 0, none⟩ = some (.int .i64 0) ∧ u.cell? ⟨wa.heap.size, 1, none⟩ = some (.int .i64 0) ∧ u.frozen? ⟨wa.heap.size, 0, none⟩ = false ∧ u.frozen? ⟨wa.heap.size, 1, none⟩ = false ∧ Below wa.heap.size wa u) := Lib.hid (fun u hq => by
            have e0 : (wa.alloc (.cells #[.int .i64 0, .int .i64 0] 26)).drew.cell? ⟨wa.heap.size, 0, none⟩ = some (.int .i64 0) := cell_drew (by go_simp)
            have e1 : (wa.alloc (.cells #[.int .i64 0, .int .i64 0] 26)).drew.cell? ⟨wa.heap.size, 1, none⟩ = some (.int .i64 0) := cell_drew (by go_simp)
            exact ⟨cell_later hq e0, cell_later hq e1, frozen_later hq e0 (frozen_drew (by go_simp)), frozen_later hq e1 (frozen_drew (by go_simp)), below_two (alloc_below hBr0).drew hq⟩)
          have RB : Hid (∀ u, Below wa.drew.heap.size wa.drew u → u.cell? ⟨KN, 0, none⟩ = some (.int .i64 l0) ∧ u.cell? ⟨KN, 1, none⟩ = some (.int .i64 l1) ∧ u.cell? ⟨bb, bo + k * 2, none⟩ = some (.int .i64 y0) ∧ u.cell? ⟨bb, bo + k * 2 + 1, none⟩ = some (.int .i64 y1) ∧ Below wa.heap.size wa u) := Lib.hid (fun u hq => ⟨cell_later hq (cell_drew k0), cell_later hq (cell_drew k1), cell_later hq (cell_drew b0), cell_later hq (cell_drew b1), below_two hBr0.drew hq⟩)
          clear c0 c1 c2 HAT
          go_region_held3 (fun w' => w'.cell? ⟨KN, 0, none⟩ = some (.int .i64 l0) ∧ w'.cell? ⟨KN, 1, none⟩ = some (.int .i64 l1) ∧ w'.cell? ⟨bb, bo + k * 2, none⟩ = some (.int .i64 y0) ∧ w'.cell? ⟨bb, bo + k * 2 + 1, none⟩ = some (.int .i64 y1) ∧ Below wa.heap.size wa w')
            (((try go_split_ands); refine ⟨?_, ?_, ?_, ?_, ?_⟩ <;> first | with_reducible assumption | (with_reducible refine cell_later hq ?_; with_reducible assumption) | (with_reducible refine below_two ?_ hq; with_reducible assumption) | (with_reducible refine alloc_cell ?_; with_reducible assumption) | (with_reducible refine alloc_below ?_; with_reducible assumption) | (with_reducible refine set_far ?_ (set_far ?_ ?_); omega; omega; with_reducible assumption) | (with_reducible refine put2_below ?_ ?_; with_reducible assumption; omega) | with_reducible exact cell_drew k0 | with_reducible exact cell_drew k1 | with_reducible exact cell_drew b0 | with_reducible exact cell_drew b1 | with_reducible exact hBr0.drew | with_reducible exact cell_drew (alloc_cell k0) | with_reducible exact cell_drew (alloc_cell k1) | with_reducible exact cell_drew (alloc_cell b0) | with_reducible exact cell_drew (alloc_cell b1) | with_reducible exact (alloc_below hBr0).drew))
            (first
              | (go_at_call 26; first
                  | (with_reducible refine (subL HSS.out HF0.out wa.drew).mono ?_; rintro ed u5 ⟨rfl, hq⟩; obtain ⟨n_k0, n_k1, n_b0, n_b1, hb5⟩ := RB.out _ hq)
                  | (with_reducible refine (subL HSS.out HF0.out (wa.alloc (.cells #[.int .i64 0, .int .i64 0] 26)).drew).mono ?_; rintro ed u5 ⟨rfl, hq⟩; obtain ⟨r_0, r_1, f_0, f_1, hb5⟩ := RA.out _ hq)))
          all_goals (first
            | (go_wp2_with fail; go_meet; case rel => exact ⟨⟨_, rfl, (put2_of r_0 r_1).1, (put2_of r_0 r_1).2, put2_below hb5 (by omega)⟩, rfl⟩)
            | (go_wp2_with fail; go_meet; case rel => exact ⟨⟨_, rfl, by go_simp, by go_simp, alloc_below hb5⟩, rfl⟩))
        case rest =>
          obtain ⟨⟨A1, rfl, x0, x1, hBx⟩, rfl⟩ := hcut
          replace c0 := cell_later hBx c0
          replace c1 := cell_later hBx c1
          replace c2 := cell_later hBx c2
          replace HIr := Lib.hid (HIr.out.later hBx)
          replace hBr := below_two hBr hBx
          clear hBx hBr0 k0 k1 b0 b1 zk zb zm
          go_wp2_with fail
          refine (mulL HFM.out.1 HFM.out.2 _).mono ?_
          rintro ed w8 ⟨rfl, hb8⟩
          replace c0 := cell_later hb8 c0
          replace c1 := cell_later hb8 c1
          replace c2 := cell_later hb8 c2
          replace HIr := Lib.hid (HIr.out.later hb8)
          replace hBr := below_two hBr hb8
          clear hb8 x0 x1
          have zm := World.block_lt_of_cell? _ _ c0
          simp only at zm
          have hgl : ¬ g < 1 := by omega
          go_upto_region 18 with fail
          have k0 : (w8.alloc (.cells #[.int .i64 g, .int .i64 1] 26)).cell? ⟨w8.heap.size, 0, none⟩ = some (.int .i64 g) := by go_simp
          have hal : Below w8.heap.size w8 (w8.alloc (.cells #[.int .i64 g, .int .i64 1] 26)) := (Below.refl _ _).alloc (Nat.le_refl _) _
          replace c0 := cell_later hal c0
          replace c1 := cell_later hal c1
          replace c2 := cell_later hal c2
          replace HIr := Lib.hid (HIr.out.later hal)
          replace hBr := below_two hBr hal
          clear hal zm
          generalize w8.alloc (.cells #[.int .i64 g, .int .i64 1] 26) = w9 at *
          generalize w8.heap.size = KG at *
          have zk := World.block_lt_of_cell? _ _ k0
          have zm := World.block_lt_of_cell? _ _ c0
          simp only at zk zm
          obtain ⟨p', c', e', _, hc'⟩ := HIr.out
          have hlk : lm[k]? = some g := by have := HG.out; rw [HGG.out] at this; exact this
          obtain ⟨bm, om, e2, hgc⟩ := hc' k g hlk
          cases e'
          subst e2
          have hk3 : (k : Int) < (lm.length : Int) := by rw [HLN.out]; omega
          have hk4 : decide ((lm.length : Int) ≤ (k : Int)) = false := decide_eq_false (by rw [HLN.out]; omega)
          have hk5 : decide (lm.length ≤ k) = false := decide_eq_false (by have := HLN.out; omega)
          have hk6 : ¬ lm.length ≤ k := by have := HLN.out; omega
          have hgn : (g != g) = false := by simp
          clear hc' hlk
          --QQ
          have g_c0 := fun dd os => cell_regrown c0 dd os
          have g_c1 := fun dd os => cell_regrown c1 dd os
          have g_c2 := fun dd os => cell_regrown c2 dd os
          have g_k0 := fun dd os => cell_regrown k0 dd os
          have g_hgc := fun dd os => cell_regrown hgc dd os
          refine wp_region_quiet_below (by kernel_rfl) (by kernel_rfl) ?_
          repeat (go_big_quiet_step (first | fail))
          refine wpQuiet_nil ?_
          intro _ hw'
          obtain ⟨⟨dq, osq⟩, hw''⟩ := hw'
          subst hw''
          replace c0 := g_c0 dq osq
          clear g_c0
          replace c1 := g_c1 dq osq
          clear g_c1
          replace c2 := g_c2 dq osq
          clear g_c2
          replace k0 := g_k0 dq osq
          clear g_k0
          replace hgc := g_hgc dq osq
          clear g_hgc
          have hb_wz := below_regrown w9 dq osq
          generalize Go.Sort.grow (redrawn w9 dq) osq = wz at *
          replace hBr := below_two hBr hb_wz
          clear hb_wz
          have HN2 : Hid (Met.ah (Met.grp N D lm) (k + 1) = A + g) := Lib.hid (by rw [Met.ah_succ HG.out, HA.out])
          go_wp2
          go_roundw
          case rel => exact ⟨k + 1, A + g, by omega, by go_num, HN2, rfl, by omega, by omega, hBr⟩
          case measure => simp [intOf]; omega
    · obtain rfl : k = nb := by omega
      have hAN : A = N := by rw [← HA.out, ← hnb, Met.ah_all, HRR.out.all]
      have hAn : (A == N) = true := beq_iff_eq.2 hAN
      have hll : ((k : Int) == (lm.length : Int)) = true := by rw [HLN.out]; simp
      clear e0 e1
      go_wp2
      go_ret
      exact ⟨rfl, below_two hB7 hBr⟩

set_option maxRecDepth 100000 in
set_option maxHeartbeats 4000000 in
theorem meterBeats_false (a b : Int) (v : Value) (gs : List Int) (w : World) (hI : Ints w v gs) (ia : Rat.I64 a) (ib : Rat.I64 b) (hgs : ∀ z ∈ gs, Rat.I64 z) : LawHolds 4 #[mt a b v, .bool false] w := by
  unfold LawHolds
  obtain ⟨px, cx, rfl, hlx, hcx⟩ := hI
  have HX : Hid (Ints w (.slice px gs.length cx) gs) := Lib.hid ⟨px, cx, rfl, hlx, hcx⟩
  clear hlx hcx
  have HGS := Lib.hid hgs
  clear hgs
  obtain ⟨N, HN⟩ : ∃ N, Hid (mkN a = N) := ⟨_, Lib.hid rfl⟩
  obtain ⟨D, HD⟩ : ∃ D, Hid (mkD b = D) := ⟨_, Lib.hid rfl⟩
  obtain ⟨X, HXX⟩ : ∃ X, Hid (Met.of N D = X) := ⟨_, Lib.hid rfl⟩
  obtain ⟨l0, l1⟩ := X
  have hgR := guardR
  have heR := eql_rt
  have hnR := neq_rt
  have hsR := eqR_self
  have hB0 : Below w.heap.size w w := Below.refl _ _
  go_enter Try.func4, Try.ntmps4
  go_wp2_with fail
  refine (awake_any _).mono ?_
  rintro e w1 ⟨rfl, hb1⟩
  have hs1 : Below w.heap.size w w1 := Below.trans (by repeat (first | exact Below.refl _ _ | refine Below.alloc ?_ (by simp <;> omega) _)) (hb1.mono (by simp <;> omega))
  have c_x_0 : w1.cell? ⟨w.heap.size, 0, none⟩ = some (.int .i64 a) := (hb1.cell (by simp <;> omega)).trans (by go_simp)
  have c_x_1 : w1.cell? ⟨w.heap.size, 1, none⟩ = some (.int .i64 b) := (hb1.cell (by simp <;> omega)).trans (by go_simp)
  have c_x_2 : w1.cell? ⟨w.heap.size, 2, none⟩ = some (.slice px gs.length cx) := (hb1.cell (by simp <;> omega)).trans (by go_simp)
  have z_x := World.block_lt_of_cell? _ _ c_x_0
  have hB1 := below_two hB0 hs1
  clear hB0 hs1 hb1
  go_wp2_with fail
  have hs2 : Below w1.heap.size w1 w1 := by repeat (first | exact Below.refl _ _ | refine Below.alloc ?_ (by simp <;> omega) _)
  replace c_x_0 := cell_later hs2 c_x_0
  replace c_x_1 := cell_later hs2 c_x_1
  replace c_x_2 := cell_later hs2 c_x_2
  have hB2 := below_two hB1 hs2
  clear hB1 hs2
  have y2_x := z_x
  generalize w1 = w2 at *
  clear z_x
  have z_x := World.block_lt_of_cell? _ _ c_x_0
  go_wp2_with fail
  refine (meterL HN.out HD.out _ gs _ (HX.out.later hB2) ia ib HGS.out false).mono ?_
  rintro e w3 ⟨⟨um, rfl, lm, him, hrm, hzm⟩, hb3⟩
  have hs3 := hb3
  replace c_x_0 := cell_later hs3 c_x_0
  replace c_x_1 := cell_later hs3 c_x_1
  replace c_x_2 := cell_later hs3 c_x_2
  clear z_x
  have z_x := World.block_lt_of_cell? _ _ c_x_0
  have hB3 := below_two hB2 hs3
  clear hB2 hs3
  obtain ⟨pm, cm, rfl, hlm, hcm⟩ := him
  have HIm : Hid (Ints _ (.slice pm lm.length cm) lm) := Lib.hid ⟨pm, cm, rfl, hlm, hcm⟩
  have HRm := Lib.hid hrm
  clear hcm hrm
  go_wp2_with fail
  have hs4 : Below w3.heap.size w3 (w3.alloc (.cells #[.int .i64 N, .int .i64 D, .slice pm lm.length cm] 24)) := by repeat (first | exact Below.refl _ _ | refine Below.alloc ?_ (by simp <;> omega) _)
  clear c_x_0
  clear c_x_1
  clear c_x_2
  replace HIm := Lib.hid (HIm.out.later hs4)
  have c_m_0 : (w3.alloc (.cells #[.int .i64 N, .int .i64 D, .slice pm lm.length cm] 24)).cell? ⟨w3.heap.size, 0, none⟩ = some (.int .i64 N) := by go_simp
  have c_m_1 : (w3.alloc (.cells #[.int .i64 N, .int .i64 D, .slice pm lm.length cm] 24)).cell? ⟨w3.heap.size, 1, none⟩ = some (.int .i64 D) := by go_simp
  have c_m_2 : (w3.alloc (.cells #[.int .i64 N, .int .i64 D, .slice pm lm.length cm] 24)).cell? ⟨w3.heap.size, 2, none⟩ = some (.slice pm lm.length cm) := by go_simp
  have hB4 := below_two hB3 hs4
  clear hB3 hs4
  have y4_x := z_x
  generalize (w3.alloc (.cells #[.int .i64 N, .int .i64 D, .slice pm lm.length cm] 24)) = w4 at *
  have z_m := World.block_lt_of_cell? _ _ c_m_0
  clear z_x
  have HRR := Lib.hid (Met.isRight HRm.out)
  have n1 := HRR.out.n1
  have n32 := HRR.out.n32
  have d1 := HRR.out.d1
  have d64 := HRR.out.d64
  have hG := HRR.out.len
  obtain ⟨hG1, hG2⟩ := hG
  obtain ⟨nb, HNB⟩ : ∃ nb, Hid ((Met.bt N D lm).length = nb) := ⟨_, Lib.hid rfl⟩
  have hnb : (Met.grp N D lm).length = nb := by rw [← HNB.out, Met.bt, Met.bts_length]
  rw [hnb] at hG1 hG2
  go_wp2_with fail
  refine (beats_right HIm.out HRm.out rfl).mono ?_
  rintro e w5 ⟨⟨ub, rfl, hPb⟩, hb5⟩
  have hs5 := hb5
  replace HIm := Lib.hid (HIm.out.later hs5)
  replace c_m_0 := cell_later hs5 c_m_0
  replace c_m_1 := cell_later hs5 c_m_1
  replace c_m_2 := cell_later hs5 c_m_2
  clear z_m
  have z_m := World.block_lt_of_cell? _ _ c_m_0
  have hB5 := below_two hB4 hs5
  clear hB4 hs5
  obtain ⟨pb, cb, rfl, hpl, hpc⟩ := hPb
  have HPB : Hid (Prs _ (.slice pb (Met.bt N D lm).length cb) (Met.bt N D lm)) := Lib.hid ⟨pb, cb, rfl, hpl, hpc⟩
  obtain ⟨bb, bo, rfl⟩ : ∃ b o, pb = some ⟨b, o, none⟩ := by
    obtain ⟨b, o, e, _⟩ := hpc 0 _ (Met.bts_at (by rw [hnb]; omega))
    exact ⟨b, o, e⟩
  clear hpl hpc
  rw [HNB.out] at HPB ⊢
  go_wp2_with fail
  refine (mlength_right HIm.out HRm.out HXX.out).mono ?_
  rintro e w6 ⟨rfl, hb6⟩
  have hs6 := hb6
  replace HIm := Lib.hid (HIm.out.later hs6)
  replace HPB := Lib.hid (HPB.out.later hs6)
  replace c_m_0 := cell_later hs6 c_m_0
  replace c_m_1 := cell_later hs6 c_m_1
  replace c_m_2 := cell_later hs6 c_m_2
  clear z_m
  have z_m := World.block_lt_of_cell? _ _ c_m_0
  have hB6 := below_two hB5 hs6
  clear hB5 hs6
  have HAT : Hid (∀ w (k : Nat), Prs w (.slice (some ⟨bb, bo, none⟩) nb cb) (Met.bt N D lm) → k < nb → w.cell? ⟨bb, bo + k * 2, none⟩ = some (.int .i64 (Met.of (Met.ah (Met.grp N D lm) k) D).1) ∧ w.cell? ⟨bb, bo + k * 2 + 1, none⟩ = some (.int .i64 (Met.of (Met.ah (Met.grp N D lm) k) D).2)) := Lib.hid (fun w k hP hk => by
    obtain ⟨p', c', e, _, hc⟩ := hP
    obtain ⟨b', o', e2, h1, h2⟩ := hc k _ (Met.bts_at (by rw [hnb]; exact hk))
    subst e2
    cases e
    exact ⟨h1, h2⟩)
  obtain ⟨q0, q1⟩ := HAT.out w6 0 HPB.out (by omega)
  rw [show Met.of (Met.ah (Met.grp N D lm) 0) D = (0, 1) from Met.Is.unique (HRR.out.beat (by rw [hnb]; omega)) ⟨⟨by decide, by decide, by decide, by decide, by decide⟩, d1, by rw [Met.ah_zero]; simp⟩] at q0 q1
  simp only [Nat.zero_mul, Nat.add_zero] at q0 q1
  have hnz : ((nb : Int) == 0) = false := beq_eq_false_iff_ne.2 (by omega)
  have hnpos : (0 : Int) < (nb : Int) := by omega
  have z_bz := World.block_lt_of_cell? _ _ q0
  go_wp2_with fail
  have hs7 : Below w6.heap.size w6 (w6.alloc (.cells #[.int .i64 l0, .int .i64 l1] 26)) := by repeat (first | exact Below.refl _ _ | refine Below.alloc ?_ (by simp <;> omega) _)
  replace HIm := Lib.hid (HIm.out.later hs7)
  replace HPB := Lib.hid (HPB.out.later hs7)
  replace c_m_0 := cell_later hs7 c_m_0
  replace c_m_1 := cell_later hs7 c_m_1
  replace c_m_2 := cell_later hs7 c_m_2
  replace q0 := cell_later hs7 q0
  replace q1 := cell_later hs7 q1
  have c_l_0 : (w6.alloc (.cells #[.int .i64 l0, .int .i64 l1] 26)).cell? ⟨w6.heap.size, 0, none⟩ = some (.int .i64 l0) := by go_simp
  have c_l_1 : (w6.alloc (.cells #[.int .i64 l0, .int .i64 l1] 26)).cell? ⟨w6.heap.size, 1, none⟩ = some (.int .i64 l1) := by go_simp
  have hB7 := below_two hB6 hs7
  clear hB6 hs7
  have y7_bz := z_bz
  have y7_m := z_m
  generalize (w6.alloc (.cells #[.int .i64 l0, .int .i64 l1] 26)) = w7 at *
  clear z_bz
  have z_bz := World.block_lt_of_cell? _ _ q0
  have z_l := World.block_lt_of_cell? _ _ c_l_0
  clear z_m
  have z_m := World.block_lt_of_cell? _ _ c_m_0
  have hle : lm = [] := by simpa using hzm
  have HGG : Hid (∀ (k : Nat) (g : Int), (Met.grp N D lm)[k]? = some g → (g = 3 ∧ 8 ≤ D ∧ 3 < N ∧ N % 3 = 0) ∨ g = 1) := Lib.hid (fun k g hg => by
    have e : Met.grp N D lm = List.replicate (N / Met.each N D).toNat (Met.each N D) := by unfold Met.grp; rw [if_pos (by rw [hle]; rfl)]
    rw [e] at hg
    have := List.eq_of_mem_replicate (List.mem_of_getElem? hg)
    rcases Met.each_cases N D with ⟨a, b⟩ | ⟨a, _⟩
    · exact .inl ⟨by omega, b⟩
    · exact .inr (by omega))
  clear hle hzm
  clear hlm hnz hnpos q0 q1
  go_loopw [11, 12] (fun h i wr => BRel (Met.grp N D lm) nb w7 h i wr) (fun _ i _ => nb - (intOf i).toNat)
  case atStart => exact ⟨0, 0, by omega, rfl, Lib.hid rfl, rfl, by omega, by omega, Below.refl _ _⟩
  case round =>
    obtain ⟨k, A, hk, rfl, HA, rfl, hA0, hA1, hBr⟩ := hrel
    have c0 := cell_later hBr c_m_0
    have c1 := cell_later hBr c_m_1
    have c2 := cell_later hBr c_m_2
    have e0 := cell_later hBr c_l_0
    have e1 := cell_later hBr c_l_1
    have HIr := Lib.hid (HIm.out.later hBr)
    have HPr := Lib.hid (HPB.out.later hBr)
    have zm := World.block_lt_of_cell? _ _ c0
    have zl := World.block_lt_of_cell? _ _ e0
    simp only at zm zl
    clear c_m_0 c_m_1 c_m_2 c_l_0 c_l_1 z_m z_l z_bz
    by_cases hlt : k < nb
    · have hlt' : (k : Int) < (nb : Int) := by omega
      obtain ⟨b0, b1⟩ := HAT.out wr k HPr.out hlt
      have zb := World.block_lt_of_cell? _ _ b0
      simp only at zb
      obtain ⟨g, hg⟩ : ∃ g, (Met.grp N D lm)[k]? = some g := ⟨_, List.getElem?_eq_getElem (by rw [hnb]; exact hlt)⟩
      obtain ⟨g1, g2⟩ := HRR.out.g_bounds hg
      have hah := Met.ah_succ hg
      have HG := Lib.hid hg
      rw [HA.out] at g2 hah
      have iY : Met.Is (Met.of (Met.ah (Met.grp N D lm) k) D) A D := by rw [HA.out]; exact Met.is_of d1 (by omega) (by omega) (by omega)
      have iZ : Met.Is (Met.of (A + g) D) (A + g) D := Met.is_of d1 (by omega) (by omega) (by omega)
      obtain ⟨f0, f1⟩ := iZ.sb iY (by omega) (by omega) (by omega)
      rw [show A + g - A = g by omega] at f1
      have fm := is_mul f1 d64 g1 (by omega)
      obtain ⟨Y, HY⟩ : ∃ Y, Hid (Met.of (Met.ah (Met.grp N D lm) k) D = Y) := ⟨_, Lib.hid rfl⟩
      obtain ⟨Z, HZ⟩ : ∃ Z, Hid (Met.of (A + g) D = Z) := ⟨_, Lib.hid rfl⟩
      rw [HY.out] at b0 b1 f0 f1 fm
      rw [HZ.out] at f0 f1 fm
      obtain ⟨y0, y1⟩ := Y
      obtain ⟨n0, n1'⟩ := Z
      obtain ⟨SS, HSS⟩ : ∃ SS, Hid (Met.sb (n0, n1') (y0, y1) = SS) := ⟨_, Lib.hid rfl⟩
      rw [HSS.out] at f1 fm
      obtain ⟨s0, s1⟩ := SS
      have HF0 := Lib.hid f0
      have HFM := Lib.hid fm
      dsimp only at b0 b1
      clear f0 f1 fm iY iZ hg
      by_cases hlt2 : k + 1 < nb
      · have hlt2' : (k : Int) + 1 < (nb : Int) := by omega
        obtain ⟨d0, d1'⟩ := HAT.out wr (k + 1) HPr.out hlt2
        rw [hah, HZ.out] at d0 d1'
        dsimp only at d0 d1'
        clear hah
        go_upto_region 14 with fail
        clear d0 d1'
        have k0 : (wr.alloc (.cells #[.int .i64 n0, .int .i64 n1'] 26)).cell? ⟨wr.heap.size, 0, none⟩ = some (.int .i64 n0) := by go_simp
        have k1 : (wr.alloc (.cells #[.int .i64 n0, .int .i64 n1'] 26)).cell? ⟨wr.heap.size, 1, none⟩ = some (.int .i64 n1') := by go_simp
        have hal : Below wr.heap.size wr (wr.alloc (.cells #[.int .i64 n0, .int .i64 n1'] 26)) := (Below.refl _ _).alloc (Nat.le_refl _) _
        replace b0 := cell_later hal b0
        replace b1 := cell_later hal b1
        replace c0 := cell_later hal c0
        replace c1 := cell_later hal c1
        replace c2 := cell_later hal c2
        replace HIr := Lib.hid (HIr.out.later hal)
        replace hBr := below_two hBr hal
        clear hal e0 e1 zm zl zb HPr
        generalize wr.alloc (.cells #[.int .i64 n0, .int .i64 n1'] 26) = wa at *
        generalize wr.heap.size = KN at *
        have zk := World.block_lt_of_cell? _ _ k0
        have zb := World.block_lt_of_cell? _ _ b0
        have zm := World.block_lt_of_cell? _ _ c0
        simp only at zk zb zm
        have hBr0 : Below wa.heap.size wa wa := Below.refl _ _
        go_cut [14, 15] (fun p e wx => AtR s0 s1 wa p wx ∧ e = .int .i64 0)
        case first =>
          have RA : Hid (∀ u, Below (wa.alloc (.cells #[.int .i64 0, .int .i64 0] 26)).drew.heap.size (wa.alloc (.cells #[.int .i64 0, .int .i64 0] 26)).drew u → u.cell? ⟨wa.heap.size, 0, none⟩ = some (.int .i64 0) ∧ u.cell? ⟨wa.heap.size, 1, none⟩ = some (.int .i64 0) ∧ u.frozen? ⟨wa.heap.size, 0, none⟩ = false ∧ u.frozen? ⟨wa.heap.size, 1, none⟩ = false ∧ Below wa.heap.size wa u) := Lib.hid (fun u hq => by
            have e0 : (wa.alloc (.cells #[.int .i64 0, .int .i64 0] 26)).drew.cell? ⟨wa.heap.size, 0, none⟩ = some (.int .i64 0) := cell_drew (by go_simp)
            have e1 : (wa.alloc (.cells #[.int .i64 0, .int .i64 0] 26)).drew.cell? ⟨wa.heap.size, 1, none⟩ = some (.int .i64 0) := cell_drew (by go_simp)
            exact ⟨cell_later hq e0, cell_later hq e1, frozen_later hq e0 (frozen_drew (by go_simp)), frozen_later hq e1 (frozen_drew (by go_simp)), below_two (alloc_below hBr0).drew hq⟩)
          have RB : Hid (∀ u, Below wa.drew.heap.size wa.drew u → u.cell? ⟨KN, 0, none⟩ = some (.int .i64 n0) ∧ u.cell? ⟨KN, 1, none⟩ = some (.int .i64 n1') ∧ u.cell? ⟨bb, bo + k * 2, none⟩ = some (.int .i64 y0) ∧ u.cell? ⟨bb, bo + k * 2 + 1, none⟩ = some (.int .i64 y1) ∧ Below wa.heap.size wa u) := Lib.hid (fun u hq => ⟨cell_later hq (cell_drew k0), cell_later hq (cell_drew k1), cell_later hq (cell_drew b0), cell_later hq (cell_drew b1), below_two hBr0.drew hq⟩)
          clear c0 c1 c2 HAT
          go_region_held3 (fun w' => w'.cell? ⟨KN, 0, none⟩ = some (.int .i64 n0) ∧ w'.cell? ⟨KN, 1, none⟩ = some (.int .i64 n1') ∧ w'.cell? ⟨bb, bo + k * 2, none⟩ = some (.int .i64 y0) ∧ w'.cell? ⟨bb, bo + k * 2 + 1, none⟩ = some (.int .i64 y1) ∧ Below wa.heap.size wa w')
            (((try go_split_ands); refine ⟨?_, ?_, ?_, ?_, ?_⟩ <;> first | with_reducible assumption | (with_reducible refine cell_later hq ?_; with_reducible assumption) | (with_reducible refine below_two ?_ hq; with_reducible assumption) | (with_reducible refine alloc_cell ?_; with_reducible assumption) | (with_reducible refine alloc_below ?_; with_reducible assumption) | (with_reducible refine set_far ?_ (set_far ?_ ?_); omega; omega; with_reducible assumption) | (with_reducible refine put2_below ?_ ?_; with_reducible assumption; omega) | with_reducible exact cell_drew k0 | with_reducible exact cell_drew k1 | with_reducible exact cell_drew b0 | with_reducible exact cell_drew b1 | with_reducible exact hBr0.drew | with_reducible exact cell_drew (alloc_cell k0) | with_reducible exact cell_drew (alloc_cell k1) | with_reducible exact cell_drew (alloc_cell b0) | with_reducible exact cell_drew (alloc_cell b1) | with_reducible exact (alloc_below hBr0).drew))
            (first
              | (go_at_call 26; first
                  | (with_reducible refine (subL HSS.out HF0.out wa.drew).mono ?_; rintro ed u5 ⟨rfl, hq⟩; obtain ⟨n_k0, n_k1, n_b0, n_b1, hb5⟩ := RB.out _ hq)
                  | (with_reducible refine (subL HSS.out HF0.out (wa.alloc (.cells #[.int .i64 0, .int .i64 0] 26)).drew).mono ?_; rintro ed u5 ⟨rfl, hq⟩; obtain ⟨r_0, r_1, f_0, f_1, hb5⟩ := RA.out _ hq)))
          all_goals (first
            | (go_wp2_with fail; go_meet; case rel => exact ⟨⟨_, rfl, (put2_of r_0 r_1).1, (put2_of r_0 r_1).2, put2_below hb5 (by omega)⟩, rfl⟩)
            | (go_wp2_with fail; go_meet; case rel => exact ⟨⟨_, rfl, by go_simp, by go_simp, alloc_below hb5⟩, rfl⟩))
        case rest =>
          obtain ⟨⟨A1, rfl, x0, x1, hBx⟩, rfl⟩ := hcut
          replace c0 := cell_later hBx c0
          replace c1 := cell_later hBx c1
          replace c2 := cell_later hBx c2
          replace HIr := Lib.hid (HIr.out.later hBx)
          replace hBr := below_two hBr hBx
          clear hBx hBr0 k0 k1 b0 b1 zk zb zm
          go_wp2_with fail
          refine (mulL HFM.out.1 HFM.out.2 _).mono ?_
          rintro ed w8 ⟨rfl, hb8⟩
          replace c0 := cell_later hb8 c0
          replace c1 := cell_later hb8 c1
          replace c2 := cell_later hb8 c2
          replace HIr := Lib.hid (HIr.out.later hb8)
          replace hBr := below_two hBr hb8
          clear hb8 x0 x1
          have zm := World.block_lt_of_cell? _ _ c0
          simp only at zm
          have hgl : ¬ g < 1 := by omega
          go_upto_region 18 with fail
          have k0 : (w8.alloc (.cells #[.int .i64 g, .int .i64 1] 26)).cell? ⟨w8.heap.size, 0, none⟩ = some (.int .i64 g) := by go_simp
          have hal : Below w8.heap.size w8 (w8.alloc (.cells #[.int .i64 g, .int .i64 1] 26)) := (Below.refl _ _).alloc (Nat.le_refl _) _
          replace c0 := cell_later hal c0
          replace c1 := cell_later hal c1
          replace c2 := cell_later hal c2
          replace HIr := Lib.hid (HIr.out.later hal)
          replace hBr := below_two hBr hal
          clear hal zm
          generalize w8.alloc (.cells #[.int .i64 g, .int .i64 1] 26) = w9 at *
          generalize w8.heap.size = KG at *
          have zk := World.block_lt_of_cell? _ _ k0
          have zm := World.block_lt_of_cell? _ _ c0
          simp only at zk zm
          --QQ
          have g_c0 := fun dd os => cell_regrown c0 dd os
          have g_c1 := fun dd os => cell_regrown c1 dd os
          have g_c2 := fun dd os => cell_regrown c2 dd os
          have g_k0 := fun dd os => cell_regrown k0 dd os
          refine wp_region_quiet_below (by kernel_rfl) (by kernel_rfl) ?_
          repeat (go_big_quiet_step (first | fail))
          refine wpQuiet_nil ?_
          intro _ hw'
          obtain ⟨⟨dq, osq⟩, hw''⟩ := hw'
          subst hw''
          replace c0 := g_c0 dq osq
          clear g_c0
          replace c1 := g_c1 dq osq
          clear g_c1
          replace c2 := g_c2 dq osq
          clear g_c2
          replace k0 := g_k0 dq osq
          clear g_k0
          have hb_wz := below_regrown w9 dq osq
          generalize Go.Sort.grow (redrawn w9 dq) osq = wz at *
          replace hBr := below_two hBr hb_wz
          clear hb_wz
          have HN2 : Hid (Met.ah (Met.grp N D lm) (k + 1) = A + g) := Lib.hid (by rw [Met.ah_succ HG.out, HA.out])
          rcases HGG.out k g HG.out with ⟨rfl, h8, h3, hm3⟩ | rfl
          · have hm4 : (N % 3 != 0) = false := by simp [hm3]
            have hm5 : ¬ N < 6 := by omega
            have hm6 : ¬ D < 8 := by omega
            clear hm3
            go_wp2
            go_roundw
            case rel => exact ⟨k + 1, A + 3, by omega, by go_num, HN2, rfl, by omega, by omega, hBr⟩
            case measure => simp [intOf]; omega
          · go_wp2
            go_roundw
            case rel => exact ⟨k + 1, A + 1, by omega, by go_num, HN2, rfl, by omega, by omega, hBr⟩
            case measure => simp [intOf]; omega
      · have hlt2' : ¬ (k : Int) + 1 < (nb : Int) := by omega
        obtain ⟨rfl, rfl⟩ : l0 = n0 ∧ l1 = n1' := by
          have e1 : k + 1 = (Met.grp N D lm).length := by rw [hnb]; omega
          have e2 := Met.ah_all (Met.grp N D lm)
          rw [← e1, hah, HRR.out.all] at e2
          have e3 := HXX.out
          rw [← e2, HZ.out] at e3
          cases e3
          exact ⟨rfl, rfl⟩
        clear hah
        go_upto_region 14 with fail
        have k0 : (wr.alloc (.cells #[.int .i64 l0, .int .i64 l1] 26)).cell? ⟨wr.heap.size, 0, none⟩ = some (.int .i64 l0) := by go_simp
        have k1 : (wr.alloc (.cells #[.int .i64 l0, .int .i64 l1] 26)).cell? ⟨wr.heap.size, 1, none⟩ = some (.int .i64 l1) := by go_simp
        have hal : Below wr.heap.size wr (wr.alloc (.cells #[.int .i64 l0, .int .i64 l1] 26)) := (Below.refl _ _).alloc (Nat.le_refl _) _
        replace b0 := cell_later hal b0
        replace b1 := cell_later hal b1
        replace c0 := cell_later hal c0
        replace c1 := cell_later hal c1
        replace c2 := cell_later hal c2
        replace HIr := Lib.hid (HIr.out.later hal)
        replace hBr := below_two hBr hal
        clear hal e0 e1 zm zl zb HPr
        generalize wr.alloc (.cells #[.int .i64 l0, .int .i64 l1] 26) = wa at *
        generalize wr.heap.size = KN at *
        have zk := World.block_lt_of_cell? _ _ k0
        have zb := World.block_lt_of_cell? _ _ b0
        have zm := World.block_lt_of_cell? _ _ c0
        simp only at zk zb zm
        have hBr0 : Below wa.heap.size wa wa := Below.refl _ _
        go_cut [14, 15] (fun p e wx => AtR s0 s1 wa p wx ∧ e = .int .i64 0)
        case first =>
          have RA : Hid (∀ u, Below (wa.alloc (.cells #[.int .i64 0, .int .i64 0] 26)).drew.heap.size (wa.alloc (.cells #[.int .i64 0, .int .i64 0] 26)).drew u → u.cell? ⟨wa.heap.size, 0, none⟩ = some (.int .i64 0) ∧ u.cell? ⟨wa.heap.size, 1, none⟩ = some (.int .i64 0) ∧ u.frozen? ⟨wa.heap.size, 0, none⟩ = false ∧ u.frozen? ⟨wa.heap.size, 1, none⟩ = false ∧ Below wa.heap.size wa u) := Lib.hid (fun u hq => by
            have e0 : (wa.alloc (.cells #[.int .i64 0, .int .i64 0] 26)).drew.cell? ⟨wa.heap.size, 0, none⟩ = some (.int .i64 0) := cell_drew (by go_simp)
            have e1 : (wa.alloc (.cells #[.int .i64 0, .int .i64 0] 26)).drew.cell? ⟨wa.heap.size, 1, none⟩ = some (.int .i64 0) := cell_drew (by go_simp)
            exact ⟨cell_later hq e0, cell_later hq e1, frozen_later hq e0 (frozen_drew (by go_simp)), frozen_later hq e1 (frozen_drew (by go_simp)), below_two (alloc_below hBr0).drew hq⟩)
          have RB : Hid (∀ u, Below wa.drew.heap.size wa.drew u → u.cell? ⟨KN, 0, none⟩ = some (.int .i64 l0) ∧ u.cell? ⟨KN, 1, none⟩ = some (.int .i64 l1) ∧ u.cell? ⟨bb, bo + k * 2, none⟩ = some (.int .i64 y0) ∧ u.cell? ⟨bb, bo + k * 2 + 1, none⟩ = some (.int .i64 y1) ∧ Below wa.heap.size wa u) := Lib.hid (fun u hq => ⟨cell_later hq (cell_drew k0), cell_later hq (cell_drew k1), cell_later hq (cell_drew b0), cell_later hq (cell_drew b1), below_two hBr0.drew hq⟩)
          clear c0 c1 c2 HAT
          go_region_held3 (fun w' => w'.cell? ⟨KN, 0, none⟩ = some (.int .i64 l0) ∧ w'.cell? ⟨KN, 1, none⟩ = some (.int .i64 l1) ∧ w'.cell? ⟨bb, bo + k * 2, none⟩ = some (.int .i64 y0) ∧ w'.cell? ⟨bb, bo + k * 2 + 1, none⟩ = some (.int .i64 y1) ∧ Below wa.heap.size wa w')
            (((try go_split_ands); refine ⟨?_, ?_, ?_, ?_, ?_⟩ <;> first | with_reducible assumption | (with_reducible refine cell_later hq ?_; with_reducible assumption) | (with_reducible refine below_two ?_ hq; with_reducible assumption) | (with_reducible refine alloc_cell ?_; with_reducible assumption) | (with_reducible refine alloc_below ?_; with_reducible assumption) | (with_reducible refine set_far ?_ (set_far ?_ ?_); omega; omega; with_reducible assumption) | (with_reducible refine put2_below ?_ ?_; with_reducible assumption; omega) | with_reducible exact cell_drew k0 | with_reducible exact cell_drew k1 | with_reducible exact cell_drew b0 | with_reducible exact cell_drew b1 | with_reducible exact hBr0.drew | with_reducible exact cell_drew (alloc_cell k0) | with_reducible exact cell_drew (alloc_cell k1) | with_reducible exact cell_drew (alloc_cell b0) | with_reducible exact cell_drew (alloc_cell b1) | with_reducible exact (alloc_below hBr0).drew))
            (first
              | (go_at_call 26; first
                  | (with_reducible refine (subL HSS.out HF0.out wa.drew).mono ?_; rintro ed u5 ⟨rfl, hq⟩; obtain ⟨n_k0, n_k1, n_b0, n_b1, hb5⟩ := RB.out _ hq)
                  | (with_reducible refine (subL HSS.out HF0.out (wa.alloc (.cells #[.int .i64 0, .int .i64 0] 26)).drew).mono ?_; rintro ed u5 ⟨rfl, hq⟩; obtain ⟨r_0, r_1, f_0, f_1, hb5⟩ := RA.out _ hq)))
          all_goals (first
            | (go_wp2_with fail; go_meet; case rel => exact ⟨⟨_, rfl, (put2_of r_0 r_1).1, (put2_of r_0 r_1).2, put2_below hb5 (by omega)⟩, rfl⟩)
            | (go_wp2_with fail; go_meet; case rel => exact ⟨⟨_, rfl, by go_simp, by go_simp, alloc_below hb5⟩, rfl⟩))
        case rest =>
          obtain ⟨⟨A1, rfl, x0, x1, hBx⟩, rfl⟩ := hcut
          replace c0 := cell_later hBx c0
          replace c1 := cell_later hBx c1
          replace c2 := cell_later hBx c2
          replace HIr := Lib.hid (HIr.out.later hBx)
          replace hBr := below_two hBr hBx
          clear hBx hBr0 k0 k1 b0 b1 zk zb zm
          go_wp2_with fail
          refine (mulL HFM.out.1 HFM.out.2 _).mono ?_
          rintro ed w8 ⟨rfl, hb8⟩
          replace c0 := cell_later hb8 c0
          replace c1 := cell_later hb8 c1
          replace c2 := cell_later hb8 c2
          replace HIr := Lib.hid (HIr.out.later hb8)
          replace hBr := below_two hBr hb8
          clear hb8 x0 x1
          have zm := World.block_lt_of_cell? _ _ c0
          simp only at zm
          have hgl : ¬ g < 1 := by omega
          go_upto_region 18 with fail
          have k0 : (w8.alloc (.cells #[.int .i64 g, .int .i64 1] 26)).cell? ⟨w8.heap.size, 0, none⟩ = some (.int .i64 g) := by go_simp
          have hal : Below w8.heap.size w8 (w8.alloc (.cells #[.int .i64 g, .int .i64 1] 26)) := (Below.refl _ _).alloc (Nat.le_refl _) _
          replace c0 := cell_later hal c0
          replace c1 := cell_later hal c1
          replace c2 := cell_later hal c2
          replace HIr := Lib.hid (HIr.out.later hal)
          replace hBr := below_two hBr hal
          clear hal zm
          generalize w8.alloc (.cells #[.int .i64 g, .int .i64 1] 26) = w9 at *
          generalize w8.heap.size = KG at *
          have zk := World.block_lt_of_cell? _ _ k0
          have zm := World.block_lt_of_cell? _ _ c0
          simp only at zk zm
          --QQ
          have g_c0 := fun dd os => cell_regrown c0 dd os
          have g_c1 := fun dd os => cell_regrown c1 dd os
          have g_c2 := fun dd os => cell_regrown c2 dd os
          have g_k0 := fun dd os => cell_regrown k0 dd os
          refine wp_region_quiet_below (by kernel_rfl) (by kernel_rfl) ?_
          repeat (go_big_quiet_step (first | fail))
          refine wpQuiet_nil ?_
          intro _ hw'
          obtain ⟨⟨dq, osq⟩, hw''⟩ := hw'
          subst hw''
          replace c0 := g_c0 dq osq
          clear g_c0
          replace c1 := g_c1 dq osq
          clear g_c1
          replace c2 := g_c2 dq osq
          clear g_c2
          replace k0 := g_k0 dq osq
          clear g_k0
          have hb_wz := below_regrown w9 dq osq
          generalize Go.Sort.grow (redrawn w9 dq) osq = wz at *
          replace hBr := below_two hBr hb_wz
          clear hb_wz
          have HN2 : Hid (Met.ah (Met.grp N D lm) (k + 1) = A + g) := Lib.hid (by rw [Met.ah_succ HG.out, HA.out])
          rcases HGG.out k g HG.out with ⟨rfl, h8, h3, hm3⟩ | rfl
          · have hm4 : (N % 3 != 0) = false := by simp [hm3]
            have hm5 : ¬ N < 6 := by omega
            have hm6 : ¬ D < 8 := by omega
            clear hm3
            go_wp2
            go_roundw
            case rel => exact ⟨k + 1, A + 3, by omega, by go_num, HN2, rfl, by omega, by omega, hBr⟩
            case measure => simp [intOf]; omega
          · go_wp2
            go_roundw
            case rel => exact ⟨k + 1, A + 1, by omega, by go_num, HN2, rfl, by omega, by omega, hBr⟩
            case measure => simp [intOf]; omega
    · obtain rfl : k = nb := by omega
      have hAN : A = N := by rw [← HA.out, ← hnb, Met.ah_all, HRR.out.all]
      have hAn : (A == N) = true := beq_iff_eq.2 hAN
      skip
      clear e0 e1
      go_wp2
      go_ret
      exact ⟨rfl, below_two hB7 hBr⟩

theorem meterBeats_calls (a b : Int) (v : Value) (gs : List Int) (gr : Bool) (w : World) (hI : Ints w v gs) (ia : Rat.I64 a) (ib : Rat.I64 b) (hgs : ∀ z ∈ gs, Rat.I64 z) : LawHolds 4 #[mt a b v, .bool gr] w := by
  cases gr
  · exact meterBeats_false a b v gs w hI ia ib hgs
  · exact meterBeats_true a b v gs w hI ia ib hgs
end Go.Proofs.Ytlodhfdikglgoaa
