/-
  MeterWeights answers true: the law's walk.
-/
import Derived.Test.YtlodhfdikglgoaaMetLaw
import Derived.LoopN
namespace Go.Proofs.Ytlodhfdikglgoaa
open Go.RowKit

theorem wt_whole {N D : Int} {gs : List Int} (h : Met.IsRight N D gs) {S : Int} (s1 : 1 ≤ S) {p : Met.Pr} {K : Int} (hp : Met.Is p K (D * S)) (hb : Met.inB N D p = true) : (Met.wtV N D gs p = 0 ∧ D % p.2 ≠ 0) ∨ (Met.wtV N D gs p ≠ 0 ∧ D % p.2 = 0) := by
  obtain ⟨_, hw⟩ := Met.wt_at h s1 hp hb
  rcases hw with ⟨h0, e⟩ | ⟨_, ⟨k, hk, e2⟩, e⟩ | ⟨_, _, e2, e⟩ | ⟨_, _, e2, e⟩
  · refine .inr ⟨by omega, (Met.cop hp.r).1 ?_⟩
    rw [hp.num_pos.2.1.2 h0, Int.zero_mul, Int.zero_emod]
  · refine .inr ⟨by omega, ?_⟩
    have hb := (h.beat hk).scale s1
    rw [e2] at hb
    rw [hp.unique hb]
    exact (h.beat hk).den
  · exact .inr ⟨by omega, e2⟩
  · exact .inl ⟨e, e2⟩
def WRel (N : Int) (G : List Int) (w0 : World) (h i : Value) (wr : World) : Prop := ∃ j k : Nat, i = .int .i64 (j : Int) ∧ h = .int .i64 (k : Int) ∧ (j : Int) ≤ N ∧ k ≤ 32 ∧ Hid (HvI G j k) ∧ Below w0.heap.size w0 wr

set_option maxRecDepth 100000 in
set_option maxHeartbeats 4000000 in
theorem meterWeights_calls (a b : Int) (v : Value) (gs : List Int) (gr : Bool) (at_ of_ : Int) (w : World) (hI : Ints w v gs) (ia : Rat.I64 a) (ib : Rat.I64 b) (hgs : ∀ z ∈ gs, Rat.I64 z) (iat : Rat.I64 at_) (iof : Rat.I64 of_) : LawHolds 5 #[mt a b v, .bool gr, .int .i64 at_, .int .i64 of_] w := by
  unfold LawHolds
  obtain ⟨px, cx, rfl, hlx, hcx⟩ := hI
  have HX : Hid (Ints w (.slice px gs.length cx) gs) := Lib.hid ⟨px, cx, rfl, hlx, hcx⟩
  clear hlx hcx
  have HGS := Lib.hid hgs
  clear hgs
  obtain ⟨N, HN⟩ : ∃ N, Hid (mkN a = N) := ⟨_, Lib.hid rfl⟩
  obtain ⟨D, HD⟩ : ∃ D, Hid (mkD b = D) := ⟨_, Lib.hid rfl⟩
  have hB0 : Below w.heap.size w w := Below.refl _ _
  go_enter Try.func5, Try.ntmps5
  go_wp2_with fail
  refine (awake_any _).mono ?_
  rintro e w1 ⟨rfl, hb1⟩
  have hs1 : Below w.heap.size w w1 := Below.trans (by repeat (first | exact Below.refl _ _ | refine Below.alloc ?_ (by simp <;> omega) _)) (hb1.mono (by simp <;> omega))
  have c_x_0 : w1.cell? ⟨w.heap.size, 0, none⟩ = some (.int .i64 a) := (hb1.cell (by simp <;> omega)).trans (by go_simp)
  have c_x_1 : w1.cell? ⟨w.heap.size, 1, none⟩ = some (.int .i64 b) := (hb1.cell (by simp <;> omega)).trans (by go_simp)
  have c_x_2 : w1.cell? ⟨w.heap.size, 2, none⟩ = some (.slice px gs.length cx) := (hb1.cell (by simp <;> omega)).trans (by go_simp)
  have z_x := World.block_lt_of_cell? _ _ c_x_0
  have hB1 := below_two hB0 hs1
  clear hB0 hs1 hb1
  go_wp2_with fail
  have hs2 : Below w1.heap.size w1 w1 := by repeat (first | exact Below.refl _ _ | refine Below.alloc ?_ (by simp <;> omega) _)
  replace c_x_0 := cell_later hs2 c_x_0
  replace c_x_1 := cell_later hs2 c_x_1
  replace c_x_2 := cell_later hs2 c_x_2
  have hB2 := below_two hB1 hs2
  clear hB1 hs2
  have y2_x := z_x
  generalize w1 = w2 at *
  clear z_x
  have z_x := World.block_lt_of_cell? _ _ c_x_0
  go_wp2_with fail
  refine (meterL HN.out HD.out _ gs _ (HX.out.later hB2) ia ib HGS.out gr).mono ?_
  rintro e w3 ⟨⟨um, rfl, lm, him, hrm, hzm⟩, hb3⟩
  have hs3 := hb3
  replace c_x_0 := cell_later hs3 c_x_0
  replace c_x_1 := cell_later hs3 c_x_1
  replace c_x_2 := cell_later hs3 c_x_2
  clear z_x
  have z_x := World.block_lt_of_cell? _ _ c_x_0
  have hB3 := below_two hB2 hs3
  clear hB2 hs3
  obtain ⟨pm, cm, rfl, hlm, hcm⟩ := him
  have HIm : Hid (Ints _ (.slice pm lm.length cm) lm) := Lib.hid ⟨pm, cm, rfl, hlm, hcm⟩
  have HRm := Lib.hid hrm
  clear hcm hrm
  go_wp2_with fail
  have hs4 : Below w3.heap.size w3 (w3.alloc (.cells #[.int .i64 N, .int .i64 D, .slice pm lm.length cm] 24)) := by repeat (first | exact Below.refl _ _ | refine Below.alloc ?_ (by simp <;> omega) _)
  clear c_x_0
  clear c_x_1
  clear c_x_2
  replace HIm := Lib.hid (HIm.out.later hs4)
  have c_m_0 : (w3.alloc (.cells #[.int .i64 N, .int .i64 D, .slice pm lm.length cm] 24)).cell? ⟨w3.heap.size, 0, none⟩ = some (.int .i64 N) := by go_simp
  have c_m_1 : (w3.alloc (.cells #[.int .i64 N, .int .i64 D, .slice pm lm.length cm] 24)).cell? ⟨w3.heap.size, 1, none⟩ = some (.int .i64 D) := by go_simp
  have c_m_2 : (w3.alloc (.cells #[.int .i64 N, .int .i64 D, .slice pm lm.length cm] 24)).cell? ⟨w3.heap.size, 2, none⟩ = some (.slice pm lm.length cm) := by go_simp
  have hB4 := below_two hB3 hs4
  clear hB3 hs4
  have y4_x := z_x
  generalize (w3.alloc (.cells #[.int .i64 N, .int .i64 D, .slice pm lm.length cm] 24)) = w4 at *
  have z_m := World.block_lt_of_cell? _ _ c_m_0
  clear z_x
  have HRR := Lib.hid (Met.isRight HRm.out)
  have n1 := HRR.out.n1
  have n32 := HRR.out.n32
  have d1 := HRR.out.d1
  have d64 := HRR.out.d64
  have hG := HRR.out.len
  obtain ⟨hG1, hG2⟩ := hG
  obtain ⟨nb, HNB⟩ : ∃ nb, Hid ((Met.bt N D lm).length = nb) := ⟨_, Lib.hid rfl⟩
  have hnb : (Met.grp N D lm).length = nb := by rw [← HNB.out, Met.bt, Met.bts_length]
  go_wp2_with fail
  refine (beats_right HIm.out HRm.out rfl).mono ?_
  rintro e w5 ⟨⟨ub, rfl, hPb⟩, hb5⟩
  have hs5 := hb5
  replace HIm := Lib.hid (HIm.out.later hs5)
  replace c_m_0 := cell_later hs5 c_m_0
  replace c_m_1 := cell_later hs5 c_m_1
  replace c_m_2 := cell_later hs5 c_m_2
  clear z_m
  have z_m := World.block_lt_of_cell? _ _ c_m_0
  have hB5 := below_two hB4 hs5
  clear hB4 hs5
  obtain ⟨pb, cb, rfl, _, _⟩ := hPb
  rw [HNB.out]
  have y0_m := z_m
  simp only at y0_m
  clear hlm hzm
  go_wp2_with fail
  go_loopw [13, 14] (fun h i wr => WRel N (Met.grp N D lm) w5 h i wr) (fun _ i _ => (N - intOf i).toNat)
  case atStart => exact ⟨0, 0, rfl, rfl, by omega, by omega, Lib.hid ⟨by omega, fun i hi => by omega, fun i _ hi => (HRR.out.ah_bounds hi).1⟩, Below.refl _ _⟩
  case round =>
    obtain ⟨jj, k, rfl, rfl, hjN, hk, HH, hBr⟩ := hrel
    have c0 := cell_later hBr c_m_0
    have c1 := cell_later hBr c_m_1
    have c2 := cell_later hBr c_m_2
    have HIr := Lib.hid (HIm.out.later hBr)
    have zm := World.block_lt_of_cell? _ _ c0
    simp only at zm
    clear c_m_0 c_m_1 c_m_2 z_m
    by_cases hlt : (jj : Int) < N
    · obtain ⟨X, HX2⟩ : ∃ X, Hid (Met.of (jj : Int) D = X) := ⟨_, Lib.hid rfl⟩
      obtain ⟨x0, x1⟩ := X
      have hwt := Met.wt_part HRR.out (j := (jj : Int)) (by omega) hlt
      rw [HX2.out] at hwt
      obtain ⟨hwe, hwt⟩ := hwt
      have HWE := Lib.hid hwe
      have HWT := Lib.hid hwt
      clear hwe hwt
      go_wp2_with fail
      refine (ofL (n := (jj : Int)) (d := D) (by omega) (by omega) (by omega) (by omega) HX2.out _).mono ?_
      rintro ed w8 ⟨rfl, hb8⟩
      replace c0 := cell_later hb8 c0
      replace c1 := cell_later hb8 c1
      replace c2 := cell_later hb8 c2
      replace HIr := Lib.hid ((HIr.out.later hb8).later ((Below.refl _ _).alloc (Nat.le_refl _) (.cells #[.int .i64 x0, .int .i64 x1] 26)))
      replace hBr := alloc_below (o := .cells #[.int .i64 x0, .int .i64 x1] 26) (below_two hBr hb8)
      have hz8 := hb8.size
      clear hb8
      have zm8 := World.block_lt_of_cell? _ _ c0
      simp only at zm8
      obtain ⟨V, HV⟩ : ∃ V, Hid (Met.wtV N D lm (x0, x1) = V) := ⟨_, Lib.hid rfl⟩
      rw [HV.out] at HWT
      go_wp2_with fail
      refine (weight_is HIr.out HV.out HWE.out).mono ?_
      rintro ed w9 ⟨rfl, hb9⟩
      replace hBr := below_two hBr hb9
      clear hb9 c0 c1 c2 HIr
      rcases HWT.out with ⟨h0, rfl⟩ | ⟨h0, hbe, rfl⟩ | ⟨h0, hbe, rfl⟩
      · have hj0 : ((jj : Int) == 0) = true := beq_iff_eq.2 h0
        have hst := HH.out.step HRR.out.pos ⟨0, by omega, by rw [h0]; rfl⟩
        have hst2 := hst.le
        have HST := Lib.hid hst
        clear hst h0
        go_wp2
        go_roundw
        case rel => exact ⟨jj + 1, k + 1, by go_num, by go_num, by omega, by omega, HST, hBr⟩
        case measure => simp [intOf]; omega
      · have hj0 : ((jj : Int) == 0) = false := beq_eq_false_iff_ne.2 h0
        have hst := HH.out.step HRR.out.pos hbe
        have hst2 := hst.le
        have HST := Lib.hid hst
        clear hst h0 hbe
        go_wp2
        go_roundw
        case rel => exact ⟨jj + 1, k + 1, by go_num, by go_num, by omega, by omega, HST, hBr⟩
        case measure => simp [intOf]; omega
      · have hj0 : ((jj : Int) == 0) = false := beq_eq_false_iff_ne.2 h0
        have HST := Lib.hid (HH.out.same hbe)
        clear h0 hbe
        go_wp2
        go_roundw
        case rel => exact ⟨jj + 1, k, by go_num, by go_num, by omega, by omega, HST, hBr⟩
        case measure => simp [intOf]; omega
    · have hjj : (jj : Int) = N := by omega
      have hkn : k = nb := by rw [← hnb]; exact HH.out.all (fun i hi => by rw [hjj]; exact (HRR.out.ah_bounds hi).2)
      clear HH
      subst hkn
      obtain ⟨Y, HY⟩ : ∃ Y, Hid (Met.of (mkK N at_ of_) (D * mkS of_) = Y) := ⟨_, Lib.hid rfl⟩
      obtain ⟨p0, p1⟩ := Y
      have hpi := place_is (a := at_) (o := of_) HRm.out
      rw [HY.out] at hpi
      obtain ⟨s1, s2⟩ := mkS_b of_
      obtain ⟨K0, K1⟩ := mkK_b (N := N) (a := at_) (o := of_) n1
      have hin := Met.in_bar HRR.out s1 hpi K0 K1
      have hwe := (Met.wt_at HRR.out s1 hpi hin).1
      have hww := wt_whole HRR.out s1 hpi hin
      have hcop := Met.cop (D := D) hpi.r
      have hbd := right_bounds hpi.r
      have hpos := hpi.num_pos.2.2.2 K0
      dsimp only at hcop hbd hpos hww
      obtain ⟨b1, b2, b3, b4⟩ := hbd
      have HWE := Lib.hid hwe
      obtain ⟨V, HV⟩ : ∃ V, Hid (Met.wtV N D lm (p0, p1) = V) := ⟨_, Lib.hid rfl⟩
      rw [HV.out] at hww
      have hpd : p0 * D ≤ 1000000000 * 64 := Int.mul_le_mul b4 d64 (by omega) (by omega)
      have hpd0 : 0 ≤ p0 * D := Int.mul_nonneg hpos (by omega)
      obtain ⟨Q, HQ⟩ : ∃ Q, Hid (p0 * D = Q) := ⟨_, Lib.hid rfl⟩
      have hm : IntKind.i64.wrap (p0 * D) = Q := by rw [IntWalk.i64_in _ (by omega)]; exact HQ.out
      have hm' : p0 * D = Q := HQ.out
      rw [hm'] at hpd hpd0 hcop
      have hz1 : (p1 == 0) = false := beq_eq_false_iff_ne.2 (by omega)
      have hkk : ((k : Int) == (k : Int)) = true := by simp
      have HHW : Hid ((V == 0) = (Q % p1 != 0)) := Lib.hid (by
        rcases hww with ⟨e1, e2⟩ | ⟨e1, e2⟩
        · have : Q % p1 ≠ 0 := fun e => e2 (hcop.1 e)
          simp [e1, this]
        · have : Q % p1 = 0 := hcop.2 e2
          simp [e1, this])
      obtain ⟨t, HT⟩ : ∃ t, Hid ((V == 0) = t) := ⟨_, Lib.hid rfl⟩
      have ht1 : (V == 0) = t := HT.out
      have ht2 : (Q % p1 != 0) = t := HHW.out.symm.trans HT.out
      have ht2' : (Q.tmod p1 != 0) = t := by rw [Int.tmod_eq_emod_of_nonneg hpd0]; exact ht2
      have ht3 : (t == t) = true := by simp
      clear hcop hin hpi hwe hww hm'
      go_wp2_with fail
      refine (placeL HIr.out HRm.out iat iof HY.out).mono ?_
      rintro ed w8 ⟨rfl, hb8⟩
      replace c0 := cell_later hb8 c0
      replace c1 := cell_later hb8 c1
      replace c2 := cell_later hb8 c2
      replace HIr := Lib.hid ((HIr.out.later hb8).later ((Below.refl _ _).alloc (Nat.le_refl _) (.cells #[.int .i64 p0, .int .i64 p1] 26)))
      replace hBr := alloc_below (o := .cells #[.int .i64 p0, .int .i64 p1] 26) (below_two hBr hb8)
      have hz8 := hb8.size
      clear hb8
      have zm8 := World.block_lt_of_cell? _ _ c0
      simp only at zm8
      go_wp2_with fail
      refine (weight_is HIr.out HV.out HWE.out).mono ?_
      rintro ed w9 ⟨rfl, hb9⟩
      have e1 : w9.cell? ⟨w8.heap.size, 0, none⟩ = some (.int .i64 p0) := (hb9.cell (by simp)).trans (by go_simp)
      have e2 : w9.cell? ⟨w8.heap.size, 1, none⟩ = some (.int .i64 p1) := (hb9.cell (by simp)).trans (by go_simp)
      have e3 : w9.cell? ⟨w3.heap.size, 1, none⟩ = some (.int .i64 D) := cell_later hb9 (alloc_cell c1)
      replace hBr := below_two hBr hb9
      clear hb9 c0 c1 c2 HIr
      go_wp2
      go_ret
      exact ⟨rfl, below_two hB5 hBr⟩
end Go.Proofs.Ytlodhfdikglgoaa
