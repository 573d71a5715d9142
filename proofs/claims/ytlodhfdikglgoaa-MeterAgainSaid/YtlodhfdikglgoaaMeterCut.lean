/-
  MeterCut answers true: the law's walk.
-/
import Derived.Test.YtlodhfdikglgoaaMetLaw
import Derived.LoopN
import Derived.Deep.DeepCutAuto
import Derived.Deep.RegionHeld3
import Derived.BigQuiet
import Derived.Lib.QuietBelow
namespace Go.Proofs.Ytlodhfdikglgoaa
open Go.RowKit

/-- The place i. -/
def zat (z : List Int) (i : Nat) : Int := z[i]?.getD 0
theorem zat_some {K E : Int} {bs z : List Int} {n : Nat} (h : Met.Zs K E bs z n) {i : Nat} (hi : i ≤ n) : z[i]? = some (zat z i) := by
  have : i < z.length := by rw [h.len]; omega
  unfold zat
  rw [List.getElem?_eq_getElem this]
  rfl
theorem dif_some {K E : Int} {bs z : List Int} {n : Nat} (h : Met.Zs K E bs z n) {i : Nat} (hi : i < n) : (Met.dif z)[i]? = some (zat z (i + 1) - zat z i) :=
  Met.dif_at z i _ _ (zat_some h (by omega)) (zat_some h (by omega))
def CutRel (DD : Int) (z : List Int) (n : Nat) (w0 : World) (i : Value) (wr : World) : Prop := ∃ k : Nat, k ≤ n ∧ i = .int .i64 (k : Int) ∧ Hid (Box2 wr w0.heap.size (Met.of (zat z k) DD)) ∧ Below w0.heap.size w0 wr
def InRel (nb : Nat) (w0 : World) (i : Value) (wr : World) : Prop := ∃ k : Nat, k ≤ nb ∧ i = .int .i64 (k : Int) ∧ Below w0.heap.size w0 wr

set_option maxRecDepth 100000 in
set_option maxHeartbeats 4000000 in
theorem meterCut_up (a b : Int) (v : Value) (gs : List Int) (gr : Bool) (at_ n_ of_ : Int) (w : World) (hI : Ints w v gs) (ia : Rat.I64 a) (ib : Rat.I64 b) (hgs : ∀ z ∈ gs, Rat.I64 z) (iat : Rat.I64 at_) (inn : Rat.I64 n_) (iof : Rat.I64 of_) (hup : mkK (mkN a) at_ of_ < 1 + pickS n_ (mkN a * mkS of_)) : LawHolds 6 #[mt a b v, .bool gr, .int .i64 at_, .int .i64 n_, .int .i64 of_] w := by
  unfold LawHolds
  obtain ⟨px, cx, rfl, hlx, hcx⟩ := hI
  have HX : Hid (Ints w (.slice px gs.length cx) gs) := Lib.hid ⟨px, cx, rfl, hlx, hcx⟩
  clear hlx hcx
  have HGS := Lib.hid hgs
  clear hgs
  obtain ⟨N, HN⟩ : ∃ N, Hid (mkN a = N) := ⟨_, Lib.hid rfl⟩
  obtain ⟨D, HD⟩ : ∃ D, Hid (mkD b = D) := ⟨_, Lib.hid rfl⟩
  obtain ⟨S, HS⟩ : ∃ S, Hid (mkS of_ = S) := ⟨_, Lib.hid rfl⟩
  obtain ⟨n1, n32⟩ := mkN_b a
  obtain ⟨d1, d64⟩ := mkD_b b
  obtain ⟨s1, s12⟩ := mkS_b of_
  rw [HN.out] at n1 n32
  rw [HD.out] at d1 d64
  rw [HS.out] at s1 s12
  obtain ⟨ns1, ns2⟩ := mul_b n1 n32 s1 s12
  obtain ⟨ds1, ds2⟩ := mul_b d1 d64 s1 s12
  obtain ⟨K, HK⟩ : ∃ K, Hid (mkK N at_ of_ = K) := ⟨_, Lib.hid rfl⟩
  obtain ⟨k0, k1⟩ := mkK_b (N := N) (a := at_) (o := of_) n1
  rw [HK.out] at k0
  rw [HK.out, HS.out] at k1
  obtain ⟨e0', e1'⟩ := pickS_bounds n_ (n := N * S) ns1
  obtain ⟨Q, HQ⟩ : ∃ Q, Hid (pickS n_ (N * S) = Q) := ⟨_, Lib.hid rfl⟩
  rw [HQ.out] at e0' e1'
  obtain ⟨E, hE⟩ : ∃ E, 1 + Q = E := ⟨_, rfl⟩
  obtain ⟨DD, HDD⟩ : ∃ DD, Hid (D * S = DD) := ⟨_, Lib.hid rfl⟩
  obtain ⟨NS, HNS⟩ : ∃ NS, Hid (N * S = NS) := ⟨_, Lib.hid rfl⟩
  rw [HNS.out] at ns1 ns2 k1 e1'
  rw [HNS.out] at HQ
  rw [HDD.out] at ds1 ds2
  have iK : Met.Is (Met.of K DD) K DD := Met.is_of ds1 (by omega) (by omega) (by omega)
  have iE : Met.Is (Met.of E DD) E DD := Met.is_of ds1 (by omega) (by omega) (by omega)
  obtain ⟨j0, j1⟩ := iE.sb iK (by omega) (by omega) (by omega)
  obtain ⟨X, HXK⟩ : ∃ X, Hid (Met.of K DD = X) := ⟨_, Lib.hid rfl⟩
  obtain ⟨Y, HYE⟩ : ∃ Y, Hid (Met.of E DD = Y) := ⟨_, Lib.hid rfl⟩
  rw [HXK.out] at iK j0 j1
  rw [HYE.out] at iE j0 j1
  obtain ⟨u0, u1⟩ := X
  obtain ⟨y0, y1⟩ := Y
  obtain ⟨Z, HZL⟩ : ∃ Z, Hid (Met.sb (y0, y1) (u0, u1) = Z) := ⟨_, Lib.hid rfl⟩
  rw [HZL.out] at j1
  obtain ⟨l0, l1⟩ := Z
  have HJ0 := Lib.hid j0
  have HJ1 := Lib.hid j1
  have HIK := Lib.hid iK
  have HIE := Lib.hid iE
  have hnum := j1.num_pos
  dsimp only at hnum
  have HNUM := Lib.hid hnum
  obtain ⟨pe, HPE⟩ : ∃ pe, Hid (pickS of_ 12 = pe) := ⟨_, Lib.hid rfl⟩
  have hse : 1 + pe = S := by have := HS.out; unfold mkS at this; rw [HPE.out] at this; exact this
  have hw1 : IntKind.i64.wrap (1 + pe) = S := by rw [IntWalk.i64_in _ (by omega)]; exact hse
  have hw2 : IntKind.i64.wrap (N * S) = NS := by rw [HNS.out]; exact IntWalk.i64_in _ (by omega)
  have hw3 : IntKind.i64.wrap (D * S) = DD := by rw [HDD.out]; exact IntWalk.i64_in _ (by omega)
  have hw4 : IntKind.i64.wrap (1 + Q) = E := by rw [IntWalk.i64_in _ (by omega)]; exact hE
  have HEQ : Hid (1 + Q = E) := Lib.hid hE
  have HPL : Hid (Met.of (mkK N at_ of_) (D * mkS of_) = (u0, u1)) := Lib.hid (by rw [HK.out, HS.out, HDD.out]; exact HXK.out)
  have HOF : Hid (Rat.ofN E DD = y0 ∧ Rat.ofD E DD = y1 ∧ Rat.ofE E DD = 0) := Lib.hid ⟨congrArg Prod.fst HYE.out, congrArg Prod.snd HYE.out, Met.of_small ds1 (by omega) (by omega) (by omega)⟩
  have iEE : Rat.I64 E := i64_small (by omega) (by omega)
  have iDD : Rat.I64 DD := i64_small (by omega) (by omega)
  have hEb : 1 ≤ E ∧ E ≤ NS := by omega
  obtain ⟨hE1, hE2⟩ := hEb
  clear j0 j1 iK iE hnum hse hE e0' e1'
  have hgR := guardR
  have heR := eql_rt
  have hnR := neq_rt
  have hsR := eqR_self
  rw [HN.out, HK.out, HS.out, HNS.out, HQ.out, HEQ.out] at hup
  have hB0 : Below w.heap.size w w := Below.refl _ _
  go_enter Try.func6, Try.ntmps6
  go_wp2_with fail
  refine (awake_any _).mono ?_
  rintro e w1 ⟨rfl, hb1⟩
  have hs1 : Below w.heap.size w w1 := Below.trans (by repeat (first | exact Below.refl _ _ | refine Below.alloc ?_ (by simp <;> omega) _)) (hb1.mono (by simp <;> omega))
  have c_x_0 : w1.cell? ⟨w.heap.size, 0, none⟩ = some (.int .i64 a) := (hb1.cell (by simp <;> omega)).trans (by go_simp)
  have c_x_1 : w1.cell? ⟨w.heap.size, 1, none⟩ = some (.int .i64 b) := (hb1.cell (by simp <;> omega)).trans (by go_simp)
  have c_x_2 : w1.cell? ⟨w.heap.size, 2, none⟩ = some (.slice px gs.length cx) := (hb1.cell (by simp <;> omega)).trans (by go_simp)
  have z_x := World.block_lt_of_cell? _ _ c_x_0
  have hB1 := below_two hB0 hs1
  clear hB0 hs1 hb1
  go_wp2_with fail
  have hs2 : Below w1.heap.size w1 w1 := by repeat (first | exact Below.refl _ _ | refine Below.alloc ?_ (by simp <;> omega) _)
  replace c_x_0 := cell_later hs2 c_x_0
  replace c_x_1 := cell_later hs2 c_x_1
  replace c_x_2 := cell_later hs2 c_x_2
  have hB2 := below_two hB1 hs2
  clear hB1 hs2
  have y2_x := z_x
  generalize w1 = w2 at *
  clear z_x
  have z_x := World.block_lt_of_cell? _ _ c_x_0
  go_wp2_with fail
  refine (meterL HN.out HD.out _ gs _ (HX.out.later hB2) ia ib HGS.out gr).mono ?_
  rintro e w3 ⟨⟨um, rfl, lm, him, hrm, hzm⟩, hb3⟩
  have hs3 := hb3
  replace c_x_0 := cell_later hs3 c_x_0
  replace c_x_1 := cell_later hs3 c_x_1
  replace c_x_2 := cell_later hs3 c_x_2
  clear z_x
  have z_x := World.block_lt_of_cell? _ _ c_x_0
  have hB3 := below_two hB2 hs3
  clear hB2 hs3
  obtain ⟨pm, cm, rfl, hlm, hcm⟩ := him
  have HIm : Hid (Ints _ (.slice pm lm.length cm) lm) := Lib.hid ⟨pm, cm, rfl, hlm, hcm⟩
  have HRm := Lib.hid hrm
  clear hcm hrm
  go_wp2_with fail
  have hs4 : Below w3.heap.size w3 (w3.alloc (.cells #[.int .i64 N, .int .i64 D, .slice pm lm.length cm] 24)) := by repeat (first | exact Below.refl _ _ | refine Below.alloc ?_ (by simp <;> omega) _)
  clear c_x_0
  clear c_x_1
  clear c_x_2
  replace HIm := Lib.hid (HIm.out.later hs4)
  have c_m_0 : (w3.alloc (.cells #[.int .i64 N, .int .i64 D, .slice pm lm.length cm] 24)).cell? ⟨w3.heap.size, 0, none⟩ = some (.int .i64 N) := by go_simp
  have c_m_1 : (w3.alloc (.cells #[.int .i64 N, .int .i64 D, .slice pm lm.length cm] 24)).cell? ⟨w3.heap.size, 1, none⟩ = some (.int .i64 D) := by go_simp
  have c_m_2 : (w3.alloc (.cells #[.int .i64 N, .int .i64 D, .slice pm lm.length cm] 24)).cell? ⟨w3.heap.size, 2, none⟩ = some (.slice pm lm.length cm) := by go_simp
  have hB4 := below_two hB3 hs4
  clear hB3 hs4
  have y4_x := z_x
  generalize (w3.alloc (.cells #[.int .i64 N, .int .i64 D, .slice pm lm.length cm] 24)) = w4 at *
  have z_m := World.block_lt_of_cell? _ _ c_m_0
  clear z_x
  have HRR := Lib.hid (Met.isRight HRm.out)
  go_wp2_with fail
  refine (placeL HIm.out HRm.out iat iof HPL.out).mono ?_
  rintro e w5 ⟨rfl, hb5⟩
  have hs5 := hb5
  replace HIm := Lib.hid (HIm.out.later hs5)
  replace c_m_0 := cell_later hs5 c_m_0
  replace c_m_1 := cell_later hs5 c_m_1
  replace c_m_2 := cell_later hs5 c_m_2
  clear z_m
  have z_m := World.block_lt_of_cell? _ _ c_m_0
  have hB5 := below_two hB4 hs5
  clear hB4 hs5
  go_wp2_with fail
  have hs6 : Below w5.heap.size w5 (w5.alloc (.cells #[.int .i64 u0, .int .i64 u1] 26)) := by repeat (first | exact Below.refl _ _ | refine Below.alloc ?_ (by simp <;> omega) _)
  replace HIm := Lib.hid (HIm.out.later hs6)
  replace c_m_0 := cell_later hs6 c_m_0
  replace c_m_1 := cell_later hs6 c_m_1
  replace c_m_2 := cell_later hs6 c_m_2
  have c_f_0 : (w5.alloc (.cells #[.int .i64 u0, .int .i64 u1] 26)).cell? ⟨w5.heap.size, 0, none⟩ = some (.int .i64 u0) := by go_simp
  have c_f_1 : (w5.alloc (.cells #[.int .i64 u0, .int .i64 u1] 26)).cell? ⟨w5.heap.size, 1, none⟩ = some (.int .i64 u1) := by go_simp
  have hB6 := below_two hB5 hs6
  clear hB5 hs6
  have y6_m := z_m
  generalize (w5.alloc (.cells #[.int .i64 u0, .int .i64 u1] 26)) = w6 at *
  have z_f := World.block_lt_of_cell? _ _ c_f_0
  clear z_m
  have z_m := World.block_lt_of_cell? _ _ c_m_0
  simp only at z_m z_f
  have hBr0 : Below w6.heap.size w6 w6 := Below.refl _ _
  go_cut [14, 15] (fun p e wx => AtR y0 y1 w6 p wx ∧ e = .int .i64 0)
  case first =>
    have RA : Hid (∀ u, Below (w6.alloc (.cells #[.int .i64 0, .int .i64 0] 26)).drew.heap.size (w6.alloc (.cells #[.int .i64 0, .int .i64 0] 26)).drew u → u.cell? ⟨w6.heap.size, 0, none⟩ = some (.int .i64 0) ∧ u.cell? ⟨w6.heap.size, 1, none⟩ = some (.int .i64 0) ∧ u.frozen? ⟨w6.heap.size, 0, none⟩ = false ∧ u.frozen? ⟨w6.heap.size, 1, none⟩ = false ∧ Below w6.heap.size w6 u) := Lib.hid (fun u hq => by
      have e0 : (w6.alloc (.cells #[.int .i64 0, .int .i64 0] 26)).drew.cell? ⟨w6.heap.size, 0, none⟩ = some (.int .i64 0) := cell_drew (by go_simp)
      have e1 : (w6.alloc (.cells #[.int .i64 0, .int .i64 0] 26)).drew.cell? ⟨w6.heap.size, 1, none⟩ = some (.int .i64 0) := cell_drew (by go_simp)
      exact ⟨cell_later hq e0, cell_later hq e1, frozen_later hq e0 (frozen_drew (by go_simp)), frozen_later hq e1 (frozen_drew (by go_simp)), below_two (alloc_below hBr0).drew hq⟩)
    have RB : Hid (∀ u, Below w6.drew.heap.size w6.drew u → u.cell? ⟨w3.heap.size, 0, none⟩ = some (.int .i64 N) ∧ u.cell? ⟨w3.heap.size, 1, none⟩ = some (.int .i64 D) ∧ Below w6.heap.size w6 u) := Lib.hid (fun u hq => ⟨cell_later hq (cell_drew c_m_0), cell_later hq (cell_drew c_m_1), below_two hBr0.drew hq⟩)
    clear c_m_2 c_f_0 c_f_1
    go_region_held3 (fun w' => w'.cell? ⟨w3.heap.size, 0, none⟩ = some (.int .i64 N) ∧ w'.cell? ⟨w3.heap.size, 1, none⟩ = some (.int .i64 D) ∧ Below w6.heap.size w6 w')
      (((try go_split_ands); refine ⟨?_, ?_, ?_⟩ <;> first | with_reducible assumption | (with_reducible refine cell_later hq ?_; with_reducible assumption) | (with_reducible refine below_two ?_ hq; with_reducible assumption) | (with_reducible refine alloc_cell ?_; with_reducible assumption) | (with_reducible refine alloc_below ?_; with_reducible assumption) | (with_reducible refine set_far ?_ (set_far ?_ ?_); omega; omega; with_reducible assumption) | (with_reducible refine put2_below ?_ ?_; with_reducible assumption; omega) | with_reducible exact cell_drew c_m_0 | with_reducible exact cell_drew c_m_1 | with_reducible exact hBr0.drew | with_reducible exact cell_drew (alloc_cell c_m_0) | with_reducible exact cell_drew (alloc_cell c_m_1) | with_reducible exact (alloc_below hBr0).drew))
      (first
        | (go_at_call 30; first | (with_reducible refine (pick_is iof (by decide) (by decide) HPE.out _).mono ?_; rintro ed wx ⟨rfl, rfl⟩) | (with_reducible refine (pick_is inn ns1 (by omega) HQ.out _).mono ?_; rintro ed wx ⟨rfl, rfl⟩))
        | (go_at_call 29; first
            | (with_reducible refine (refOf_any E DD w6.drew iEE iDD).mono ?_; rintro ed u5 ⟨rfl, hq⟩; rw [HOF.out.1, HOF.out.2.1, HOF.out.2.2]; obtain ⟨n_c_m_0, n_c_m_1, hb5⟩ := RB.out _ hq)
            | (with_reducible refine (refOf_any E DD (w6.alloc (.cells #[.int .i64 0, .int .i64 0] 26)).drew iEE iDD).mono ?_; rintro ed u5 ⟨rfl, hq⟩; rw [HOF.out.1, HOF.out.2.1, HOF.out.2.2]; obtain ⟨r_0, r_1, f_0, f_1, hb5⟩ := RA.out _ hq)))
    all_goals (first
      | (go_wp2_with fail; go_meet; case rel => exact ⟨⟨_, rfl, (put2_of r_0 r_1).1, (put2_of r_0 r_1).2, put2_below hb5 (by omega)⟩, rfl⟩)
      | (go_wp2_with fail; go_meet; case rel => exact ⟨⟨_, rfl, by go_simp, by go_simp, alloc_below hb5⟩, rfl⟩))
  case rest =>
    obtain ⟨⟨A1, rfl, xc0, xc1, hBx⟩, rfl⟩ := hcut
    replace c_m_0 := cell_later hBx c_m_0
    replace c_m_1 := cell_later hBx c_m_1
    replace c_m_2 := cell_later hBx c_m_2
    replace c_f_0 := cell_later hBx c_f_0
    replace c_f_1 := cell_later hBx c_f_1
    replace HIm := Lib.hid (HIm.out.later hBx)
    have hB := below_two hB6 hBx
    clear hB6 hBx hBr0 z_m z_f
    have hB100 := hB
    clear hB
    have z_e := World.block_lt_of_cell? _ _ xc0
    have z_f := World.block_lt_of_cell? _ _ c_f_0
    have z_m := World.block_lt_of_cell? _ _ c_m_0
    go_wp2_with fail
    refine (subL HZL.out HJ0.out _).mono ?_
    rintro e w101 ⟨rfl, hb101⟩
    have hs101 := hb101
    replace HIm := Lib.hid (HIm.out.later hs101)
    replace c_m_0 := cell_later hs101 c_m_0
    replace c_m_1 := cell_later hs101 c_m_1
    replace c_m_2 := cell_later hs101 c_m_2
    replace c_f_0 := cell_later hs101 c_f_0
    replace c_f_1 := cell_later hs101 c_f_1
    replace xc0 := cell_later hs101 xc0
    replace xc1 := cell_later hs101 xc1
    clear z_e
    have z_e := World.block_lt_of_cell? _ _ xc0
    clear z_f
    have z_f := World.block_lt_of_cell? _ _ c_f_0
    clear z_m
    have z_m := World.block_lt_of_cell? _ _ c_m_0
    have hB101 := below_two hB100 hs101
    clear hB100 hs101
    go_wp2_with fail
    have hs102 : Below w101.heap.size w101 (w101.alloc (.cells #[.int .i64 l0, .int .i64 l1] 26)) := by repeat (first | exact Below.refl _ _ | refine Below.alloc ?_ (by simp <;> omega) _)
    replace HIm := Lib.hid (HIm.out.later hs102)
    replace c_m_0 := cell_later hs102 c_m_0
    replace c_m_1 := cell_later hs102 c_m_1
    replace c_m_2 := cell_later hs102 c_m_2
    replace c_f_0 := cell_later hs102 c_f_0
    replace c_f_1 := cell_later hs102 c_f_1
    replace xc0 := cell_later hs102 xc0
    replace xc1 := cell_later hs102 xc1
    have c_n_0 : (w101.alloc (.cells #[.int .i64 l0, .int .i64 l1] 26)).cell? ⟨w101.heap.size, 0, none⟩ = some (.int .i64 l0) := by go_simp
    have c_n_1 : (w101.alloc (.cells #[.int .i64 l0, .int .i64 l1] 26)).cell? ⟨w101.heap.size, 1, none⟩ = some (.int .i64 l1) := by go_simp
    have hB102 := below_two hB101 hs102
    clear hB101 hs102
    have y102_e := z_e
    have y102_f := z_f
    have y102_m := z_m
    generalize (w101.alloc (.cells #[.int .i64 l0, .int .i64 l1] 26)) = w102 at *
    clear z_e
    have z_e := World.block_lt_of_cell? _ _ xc0
    clear z_f
    have z_f := World.block_lt_of_cell? _ _ c_f_0
    clear z_m
    have z_m := World.block_lt_of_cell? _ _ c_m_0
    have z_n := World.block_lt_of_cell? _ _ c_n_0
    have hl0 : ¬ l0 ≤ 0 := by have := HNUM.out.1; omega
    have hct := Met.ct_of HRR.out s1 s12 (p := (u0, u1)) (l := (l0, l1)) (K := K) (E := E) (by rw [HDD.out]; exact HIK.out) (by rw [HDD.out]; exact HJ1.out) k0 hup (by rw [HNS.out]; exact hE2)
    obtain ⟨nl, hzs⟩ := Met.zs_is hup (Met.zb_up HRR.out s1)
    rw [HDD.out] at hct
    generalize Met.zs K E (Met.zb S (Met.grp N D lm)) = z at *
    have HZS := Lib.hid hzs
    have HCT := Lib.hid hct
    have hnl := hzs.pos
    have hll : ((Met.dif z).map (fun x => Met.of x DD)).length = nl := by rw [List.length_map, Met.dif_length, hzs.len]; omega
    have HLL := Lib.hid hll
    clear hzs hct hll
    obtain ⟨nb, HNB⟩ : ∃ nb, Hid ((Met.bt N D lm).length = nb) := ⟨_, Lib.hid rfl⟩
    have hnb : (Met.grp N D lm).length = nb := by rw [← HNB.out, Met.bt, Met.bts_length]
    have HNBB := Lib.hid hnb
    clear hnb
    go_wp2_with fail
    refine (cut_is HIm.out HCT.out).mono ?_
    rintro e w103 ⟨⟨ul, rfl, hPl⟩, hb103⟩
    have hs103 := hb103
    replace HIm := Lib.hid (HIm.out.later hs103)
    replace c_m_0 := cell_later hs103 c_m_0
    replace c_m_1 := cell_later hs103 c_m_1
    replace c_m_2 := cell_later hs103 c_m_2
    replace c_f_0 := cell_later hs103 c_f_0
    replace c_f_1 := cell_later hs103 c_f_1
    replace xc0 := cell_later hs103 xc0
    replace xc1 := cell_later hs103 xc1
    replace c_n_0 := cell_later hs103 c_n_0
    replace c_n_1 := cell_later hs103 c_n_1
    clear z_e
    have z_e := World.block_lt_of_cell? _ _ xc0
    clear z_f
    have z_f := World.block_lt_of_cell? _ _ c_f_0
    clear z_m
    have z_m := World.block_lt_of_cell? _ _ c_m_0
    clear z_n
    have z_n := World.block_lt_of_cell? _ _ c_n_0
    have hB103 := below_two hB102 hs103
    clear hB102 hs103
    obtain ⟨pl, cl, rfl, hpl, hpc⟩ := hPl
    have HPL2 : Hid (Prs _ (.slice pl ((Met.dif z).map (fun x => Met.of x DD)).length cl) ((Met.dif z).map (fun x => Met.of x DD))) := Lib.hid ⟨pl, cl, rfl, hpl, hpc⟩
    have hnl2 : nl ≤ 1000000 := by rw [← HLL.out]; exact hpl
    clear hpl hpc
    rw [HLL.out] at HPL2 ⊢
    go_wp2_with fail
    refine (beats_right HIm.out HRm.out rfl).mono ?_
    rintro e w104 ⟨⟨ub, rfl, hPb⟩, hb104⟩
    have hs104 := hb104
    replace HIm := Lib.hid (HIm.out.later hs104)
    replace HPL2 := Lib.hid (HPL2.out.later hs104)
    replace c_m_0 := cell_later hs104 c_m_0
    replace c_m_1 := cell_later hs104 c_m_1
    replace c_m_2 := cell_later hs104 c_m_2
    replace c_f_0 := cell_later hs104 c_f_0
    replace c_f_1 := cell_later hs104 c_f_1
    replace xc0 := cell_later hs104 xc0
    replace xc1 := cell_later hs104 xc1
    replace c_n_0 := cell_later hs104 c_n_0
    replace c_n_1 := cell_later hs104 c_n_1
    clear z_e
    have z_e := World.block_lt_of_cell? _ _ xc0
    clear z_f
    have z_f := World.block_lt_of_cell? _ _ c_f_0
    clear z_m
    have z_m := World.block_lt_of_cell? _ _ c_m_0
    clear z_n
    have z_n := World.block_lt_of_cell? _ _ c_n_0
    have hB104 := below_two hB103 hs104
    clear hB103 hs104
    obtain ⟨pb, cb, rfl, hpl, hpc⟩ := hPb
    have HPB : Hid (Prs _ (.slice pb (Met.bt N D lm).length cb) (Met.bt N D lm)) := Lib.hid ⟨pb, cb, rfl, hpl, hpc⟩
    have hnb2 : nb ≤ 1000000 := by rw [← HNB.out]; exact hpl
    clear hpl hpc
    rw [HNB.out] at HPB ⊢
    have hnz : ((nl : Int) == 0) = false := beq_eq_false_iff_ne.2 (by omega)
    have HBX : Hid (Box2 (w104.alloc (.cells #[.int .i64 u0, .int .i64 u1] 26)) w104.heap.size (Met.of (zat z 0) DD)) := Lib.hid (by
      have e : zat z 0 = K := by unfold zat; rw [HZS.out.first]; rfl
      rw [e, HXK.out]
      exact World.alloc_heap_new _ _)
    have hal : Below w104.heap.size w104 (w104.alloc (.cells #[.int .i64 u0, .int .i64 u1] 26)) := (Below.refl _ _).alloc (Nat.le_refl _) _
    go_wp2_with fail
    clear hnz
    go_loopw [23] (fun i wr => CutRel DD z nl w104 i wr) (fun i _ => nl - (intOf i).toNat)
    case atStart => exact ⟨0, by omega, rfl, HBX, hal⟩
    case round =>
      clear HBX hal
      obtain ⟨k, hk, rfl, HBX, hBr⟩ := hrel
      have c0 := cell_later hBr c_m_0
      have c1 := cell_later hBr c_m_1
      have c2 := cell_later hBr c_m_2
      have HIr := Lib.hid (HIm.out.later hBr)
      have HPr := Lib.hid (HPL2.out.later hBr)
      have HBr := Lib.hid (HPB.out.later hBr)
      have b0 := HBX.out.c0
      have b1 := HBX.out.c1
      have zb := HBX.out.lt
      have zm := World.block_lt_of_cell? _ _ c0
      simp only at zm
      by_cases hlt : k < nl
      · have hlt' : (k : Int) < (nl : Int) := by omega
        have hz1 := zat_some HZS.out (i := k) (by omega)
        have hz2 := zat_some HZS.out (i := k + 1) (by omega)
        have hw1 := HZS.out.within k _ hz1
        have hw2 := HZS.out.within (k + 1) _ hz2
        have hup2 := HZS.out.up k _ _ hz1 hz2
        have hnone := HZS.out.none k _ _ hz1 hz2
        have hmid := HZS.out.mid k (zat z k)
        have hdl := dif_some HZS.out hlt
        obtain ⟨p', c', e', _, hc'⟩ := HPr.out
        obtain ⟨bl, ol, e2, r0, r1⟩ := hc' k (Met.of (zat z (k + 1) - zat z k) DD) (by rw [List.getElem?_map, hdl]; rfl)
        obtain rfl : p' = pl := by cases e'; rfl
        clear e'
        subst e2
        have hlast := hw1.2.2 hlt
        obtain ⟨A, HA⟩ : ∃ A, Hid (zat z k = A) := ⟨_, Lib.hid rfl⟩
        obtain ⟨B, HB⟩ : ∃ B, Hid (zat z (k + 1) = B) := ⟨_, Lib.hid rfl⟩
        rw [HA.out] at hz1 hw1 hup2 hnone hmid r0 r1 hlast b0 b1
        rw [HB.out] at hz2 hw2 hup2 hnone r0 r1
        have iA : Met.Is (Met.of A DD) A DD := Met.is_of ds1 (by omega) (by omega) (by omega)
        have iB : Met.Is (Met.of B DD) B DD := Met.is_of ds1 (by omega) (by omega) (by omega)
        have iC : Met.Is (Met.of (B - A) DD) (B - A) DD := Met.is_of ds1 (by omega) (by omega) (by omega)
        obtain ⟨f0, f1⟩ := iA.ad iC (by omega) (by omega) (by omega)
        rw [show A + (B - A) = B by omega] at f1
        have f2 := f1.unique iB
        have hpos := iC.num_pos.1.2 (by omega)
        have iA2 : Met.Is (Met.of A DD) A (D * S) := by rw [HDD.out]; exact iA
        have hin := Met.in_bar HRR.out s1 iA2 (by omega) (by rw [HNS.out]; omega)
        obtain ⟨hwe, hwt⟩ := Met.wt_at HRR.out s1 iA2 hin
        have HBE : Hid (∀ (i : Nat), i < nb → Met.Is (Met.of (Met.ah (Met.grp N D lm) i) D) (Met.ah (Met.grp N D lm) i * S) DD ∧ ¬ (A < Met.ah (Met.grp N D lm) i * S ∧ Met.ah (Met.grp N D lm) i * S < B)) := Lib.hid (fun i hi => by
          have hi' : i < (Met.grp N D lm).length := by rw [HNBB.out]; exact hi
          refine ⟨?_, hnone _ (Met.zb_mem.2 ⟨i, hi', rfl⟩)⟩
          have := (HRR.out.beat hi').scale s1
          rw [HDD.out] at this
          exact this)
        have hheavy : 0 < k → ¬ Met.wtV N D lm (Met.of A DD) < 2 := fun hk0 => by
          obtain ⟨i, hi, e⟩ := Met.zb_mem.1 (hmid hk0 hlt hz1)
          rcases hwt with ⟨_, h⟩ | ⟨_, _, h⟩ | ⟨_, h, _⟩ | ⟨_, h, _⟩
          · omega
          · omega
          · exact absurd e (h i hi)
          · exact absurd e (h i hi)
        obtain ⟨PA, HPA⟩ : ∃ P, Hid (Met.of A DD = P) := ⟨_, Lib.hid rfl⟩
        obtain ⟨PB, HPB2⟩ : ∃ P, Hid (Met.of B DD = P) := ⟨_, Lib.hid rfl⟩
        obtain ⟨PC, HPC⟩ : ∃ P, Hid (Met.of (B - A) DD = P) := ⟨_, Lib.hid rfl⟩
        rw [HPA.out] at b0 b1 f0 f1 f2 iA hwe hheavy
        rw [HPB2.out] at f2 iB
        rw [HPC.out] at r0 r1 f0 f1 f2 hpos
        obtain ⟨a0, a1⟩ := PA
        obtain ⟨n0, n1'⟩ := PB
        obtain ⟨g0, g1⟩ := PC
        have HF0 := Lib.hid f0
        have HF2 := Lib.hid f2
        have HWE := Lib.hid hwe
        have HIA := Lib.hid iA
        have HIB := Lib.hid iB
        dsimp only at b0 b1 r0 r1 hpos
        obtain ⟨VV, HVV⟩ : ∃ VV, Hid (Met.wtV N D lm (a0, a1) = VV) := ⟨_, Lib.hid rfl⟩
        rw [HVV.out] at hheavy
        clear hc' hdl hz1 hz2 hw1 hw2 hnone hmid iC f0 f1 f2 iA iB iA2 hin hwe hwt
        go_wp2_with fail
        refine (weight_is HIr.out HVV.out HWE.out).mono ?_
        rintro ed w8 ⟨rfl, hb8⟩
        replace c0 := cell_later hb8 c0
        replace b0 := cell_later hb8 b0
        replace b1 := cell_later hb8 b1
        replace r0 := cell_later hb8 r0
        replace r1 := cell_later hb8 r1
        replace HBX := Lib.hid (HBX.out.kept (hb8.block _ HBX.out.lt))
        replace HBr := Lib.hid (HBr.out.later hb8)
        replace hBr := below_two hBr hb8
        clear hb8 c1 c2 HIr HPr zb zm
        have zb := HBX.out.lt
        have zr := World.block_lt_of_cell? _ _ r0
        simp only at zr
        go_upto_region 19 with fail
        have hBr0 : Below w8.heap.size w8 w8 := Below.refl _ _
        go_cut [26, 27] (fun p e wx => AtR n0 n1' w8 p wx ∧ e = .int .i64 0)
        case first =>
          have RA : Hid (∀ u, Below (w8.alloc (.cells #[.int .i64 0, .int .i64 0] 26)).drew.heap.size (w8.alloc (.cells #[.int .i64 0, .int .i64 0] 26)).drew u → u.cell? ⟨w8.heap.size, 0, none⟩ = some (.int .i64 0) ∧ u.cell? ⟨w8.heap.size, 1, none⟩ = some (.int .i64 0) ∧ u.frozen? ⟨w8.heap.size, 0, none⟩ = false ∧ u.frozen? ⟨w8.heap.size, 1, none⟩ = false ∧ Below w8.heap.size w8 u) := Lib.hid (fun u hq => by
            have e0 : (w8.alloc (.cells #[.int .i64 0, .int .i64 0] 26)).drew.cell? ⟨w8.heap.size, 0, none⟩ = some (.int .i64 0) := cell_drew (by go_simp)
            have e1 : (w8.alloc (.cells #[.int .i64 0, .int .i64 0] 26)).drew.cell? ⟨w8.heap.size, 1, none⟩ = some (.int .i64 0) := cell_drew (by go_simp)
            exact ⟨cell_later hq e0, cell_later hq e1, frozen_later hq e0 (frozen_drew (by go_simp)), frozen_later hq e1 (frozen_drew (by go_simp)), below_two (alloc_below hBr0).drew hq⟩)
          have RB : Hid (∀ u, Below w8.drew.heap.size w8.drew u → u.cell? ⟨w104.heap.size, 0, none⟩ = some (.int .i64 a0) ∧ u.cell? ⟨w104.heap.size, 1, none⟩ = some (.int .i64 a1) ∧ u.cell? ⟨bl, ol + k * 2, none⟩ = some (.int .i64 g0) ∧ u.cell? ⟨bl, ol + k * 2 + 1, none⟩ = some (.int .i64 g1) ∧ Below w8.heap.size w8 u) := Lib.hid (fun u hq => ⟨cell_later hq (cell_drew b0), cell_later hq (cell_drew b1), cell_later hq (cell_drew r0), cell_later hq (cell_drew r1), below_two hBr0.drew hq⟩)
          clear c0
          go_region_held3 (fun w' => w'.cell? ⟨w104.heap.size, 0, none⟩ = some (.int .i64 a0) ∧ w'.cell? ⟨w104.heap.size, 1, none⟩ = some (.int .i64 a1) ∧ w'.cell? ⟨bl, ol + k * 2, none⟩ = some (.int .i64 g0) ∧ w'.cell? ⟨bl, ol + k * 2 + 1, none⟩ = some (.int .i64 g1) ∧ Below w8.heap.size w8 w')
            (((try go_split_ands); refine ⟨?_, ?_, ?_, ?_, ?_⟩ <;> first | with_reducible assumption | (with_reducible refine cell_later hq ?_; with_reducible assumption) | (with_reducible refine below_two ?_ hq; with_reducible assumption) | (with_reducible refine alloc_cell ?_; with_reducible assumption) | (with_reducible refine alloc_below ?_; with_reducible assumption) | (with_reducible refine set_far ?_ (set_far ?_ ?_); omega; omega; with_reducible assumption) | (with_reducible refine put2_below ?_ ?_; with_reducible assumption; omega) | with_reducible exact cell_drew b0 | with_reducible exact cell_drew b1 | with_reducible exact cell_drew r0 | with_reducible exact cell_drew r1 | with_reducible exact hBr0.drew | with_reducible exact cell_drew (alloc_cell b0) | with_reducible exact cell_drew (alloc_cell b1) | with_reducible exact cell_drew (alloc_cell r0) | with_reducible exact cell_drew (alloc_cell r1) | with_reducible exact (alloc_below hBr0).drew))
            (first
              | (go_at_call 31; first
                  | (with_reducible refine (addL HF2.out HF0.out w8.drew).mono ?_; rintro ed u5 ⟨rfl, hq⟩; obtain ⟨n_b0, n_b1, n_r0, n_r1, hb5⟩ := RB.out _ hq)
                  | (with_reducible refine (addL HF2.out HF0.out (w8.alloc (.cells #[.int .i64 0, .int .i64 0] 26)).drew).mono ?_; rintro ed u5 ⟨rfl, hq⟩; obtain ⟨r_0, r_1, f_0, f_1, hb5⟩ := RA.out _ hq)))
          all_goals (first
            | (go_wp2_with fail; go_meet; case rel => exact ⟨⟨_, rfl, (put2_of r_0 r_1).1, (put2_of r_0 r_1).2, put2_below hb5 (by omega)⟩, rfl⟩)
            | (go_wp2_with fail; go_meet; case rel => exact ⟨⟨_, rfl, by go_simp, by go_simp, alloc_below hb5⟩, rfl⟩))
        case rest =>
          obtain ⟨⟨A1, rfl, xc0, xc1, hBx⟩, rfl⟩ := hcut
          replace b0 := cell_later hBx b0
          replace b1 := cell_later hBx b1
          replace r0 := cell_later hBx r0
          replace HBX := Lib.hid (HBX.out.kept (hBx.block _ HBX.out.lt))
          replace HBr := Lib.hid (HBr.out.later hBx)
          replace hBr := below_two hBr hBx
          clear hBx hBr0 zb zr r1 c0
          have zr := World.block_lt_of_cell? _ _ r0
          have zx := World.block_lt_of_cell? _ _ xc0
          have zb := HBX.out.lt
          simp only at zr zx
          have hg0 : ¬ g0 ≤ 0 := by omega
          have hgd : decide (g0 ≤ 0) = false := decide_eq_false hg0
          by_cases hk0 : 0 < k
          · have hk1 : (0 : Int) < (k : Int) := by omega
            have hv2 := hheavy hk0
            clear hheavy
            go_wp2_with fail
            go_loopw [28] (fun i wr => InRel nb wc i wr) (fun i _ => nb - (intOf i).toNat)
            case atStart => exact ⟨0, by omega, rfl, Below.refl _ _⟩
            case round =>
              obtain ⟨i, hi, rfl, hBi⟩ := hrel
              replace b0 := cell_later hBi b0
              replace b1 := cell_later hBi b1
              replace xc0 := cell_later hBi xc0
              replace xc1 := cell_later hBi xc1
              have zx2 := World.block_lt_of_cell? _ _ xc0
              have zb2 := World.block_lt_of_cell? _ _ b0
              simp only at zx2 zb2
              by_cases hlt3 : i < nb
              · have hlt3' : (i : Int) < (nb : Int) := by omega
                obtain ⟨p3, c3, e3, _, hc3⟩ := HBr.out.later hBi
                obtain ⟨b3, o3, e4, q0, q1⟩ := hc3 i _ (Met.bts_at (by rw [HNBB.out]; exact hlt3))
                obtain rfl : p3 = pb := by cases e3; rfl
                clear e3 hc3
                subst e4
                obtain ⟨hib, hno⟩ := HBE.out i hlt3
                obtain ⟨TT, HTT⟩ : ∃ TT, Hid (Met.of (Met.ah (Met.grp N D lm) i) D = TT) := ⟨_, Lib.hid rfl⟩
                rw [HTT.out] at q0 q1 hib
                obtain ⟨t0, t1⟩ := TT
                dsimp only at q0 q1
                generalize Met.ah (Met.grp N D lm) i * S = T at *
                have hm1 := hib.cm HIA.out
                have hm2 := hib.cm HIB.out
                obtain ⟨m1, HM1⟩ : ∃ m1, Hid (Met.cm (t0, t1) (a0, a1) = m1) := ⟨_, Lib.hid rfl⟩
                obtain ⟨m2, HM2⟩ : ∃ m2, Hid (Met.cm (t0, t1) (n0, n1') = m2) := ⟨_, Lib.hid rfl⟩
                rw [HM1.out] at hm1
                rw [HM2.out] at hm2
                have zq := World.block_lt_of_cell? _ _ q0
                simp only at zq
                by_cases hT : A < T
                · have hp1 : 0 < m1 := by rw [hm1, Met.sgn_gt]; omega
                  have hp2 : ¬ m2 < 0 := by rw [hm2, Met.sgn_lt]; omega
                  have hp3 : decide (0 < m1) = true := decide_eq_true hp1
                  have hp4 : decide (m2 < 0) = false := decide_eq_false hp2
                  clear hm1 hm2 hno hT hib
                  go_wp2_with fail
                  have g_q0 := fun dd os => cell_regrown q0 dd os
                  have g_q1 := fun dd os => cell_regrown q1 dd os
                  have g_b0 := fun dd os => cell_regrown b0 dd os
                  have g_b1 := fun dd os => cell_regrown b1 dd os
                  have g_xc0 := fun dd os => cell_regrown xc0 dd os
                  have g_xc1 := fun dd os => cell_regrown xc1 dd os
                  have q0 : Hid (∀ dd os, Calls Try.prog 32 #[rt t0 t1, rt a0 a1] (Go.Sort.grow (redrawn wr dd) os) fun e w'' => e = .returned (.int .i64 m1) ∧ ∃ p : Regrown, w'' = Go.Sort.grow (redrawn wr p.d) p.os) := Lib.hid (fun dd os => Calls.regrown_of (cmpL HM1.out (Go.Sort.grow (redrawn wr dd) os)))
                  have q1 : Hid (∀ dd os, Calls Try.prog 32 #[rt t0 t1, rt n0 n1'] (Go.Sort.grow (redrawn wr dd) os) fun e w'' => e = .returned (.int .i64 m2) ∧ ∃ p : Regrown, w'' = Go.Sort.grow (redrawn wr p.d) p.os) := Lib.hid (fun dd os => Calls.regrown_of (cmpL HM2.out (Go.Sort.grow (redrawn wr dd) os)))
                  refine wp_region_quiet_below (by kernel_rfl) (by kernel_rfl) ?_
                  repeat (go_big_quiet_step (first | (go_at_call 32; with_reducible exact q0.out _ _) | (go_at_call 32; with_reducible exact q1.out _ _)))
                  refine wpQuiet_nil ?_
                  intro _ hw'
                  obtain ⟨⟨dq, osq⟩, hw''⟩ := hw'
                  subst hw''
                  replace q0 := g_q0 dq osq
                  clear g_q0
                  replace q1 := g_q1 dq osq
                  clear g_q1
                  replace b0 := g_b0 dq osq
                  clear g_b0
                  replace b1 := g_b1 dq osq
                  clear g_b1
                  replace xc0 := g_xc0 dq osq
                  clear g_xc0
                  replace xc1 := g_xc1 dq osq
                  clear g_xc1
                  clear q0 q1
                  have hb_wz := below_regrown wr dq osq
                  generalize Go.Sort.grow (redrawn wr dq) osq = wz at *
                  go_wp2
                  go_roundw
                  case rel => exact ⟨i + 1, by omega, by go_num, below_two hBi hb_wz⟩
                  case measure => simp [intOf]; omega
                · have hp1 : ¬ 0 < m1 := by rw [hm1, Met.sgn_gt]; omega
                  have hp3 : decide (0 < m1) = false := decide_eq_false hp1
                  clear hm1 hm2 hno hT hib HM2
                  go_wp2_with fail
                  have g_q0 := fun dd os => cell_regrown q0 dd os
                  have g_q1 := fun dd os => cell_regrown q1 dd os
                  have g_b0 := fun dd os => cell_regrown b0 dd os
                  have g_b1 := fun dd os => cell_regrown b1 dd os
                  have g_xc0 := fun dd os => cell_regrown xc0 dd os
                  have g_xc1 := fun dd os => cell_regrown xc1 dd os
                  have q0 : Hid (∀ dd os, Calls Try.prog 32 #[rt t0 t1, rt a0 a1] (Go.Sort.grow (redrawn wr dd) os) fun e w'' => e = .returned (.int .i64 m1) ∧ ∃ p : Regrown, w'' = Go.Sort.grow (redrawn wr p.d) p.os) := Lib.hid (fun dd os => Calls.regrown_of (cmpL HM1.out (Go.Sort.grow (redrawn wr dd) os)))
                  refine wp_region_quiet_below (by kernel_rfl) (by kernel_rfl) ?_
                  repeat (go_big_quiet_step (first | (go_at_call 32; with_reducible exact q0.out _ _)))
                  refine wpQuiet_nil ?_
                  intro _ hw'
                  obtain ⟨⟨dq, osq⟩, hw''⟩ := hw'
                  subst hw''
                  replace q0 := g_q0 dq osq
                  clear g_q0
                  replace q1 := g_q1 dq osq
                  clear g_q1
                  replace b0 := g_b0 dq osq
                  clear g_b0
                  replace b1 := g_b1 dq osq
                  clear g_b1
                  replace xc0 := g_xc0 dq osq
                  clear g_xc0
                  replace xc1 := g_xc1 dq osq
                  clear g_xc1
                  clear q0
                  have hb_wz := below_regrown wr dq osq
                  generalize Go.Sort.grow (redrawn wr dq) osq = wz at *
                  go_wp2
                  go_roundw
                  case rel => exact ⟨i + 1, by omega, by go_num, below_two hBi hb_wz⟩
                  case measure => simp [intOf]; omega
              · have hHX := HBX.out.kept (hBi.block _ HBX.out.lt)
                have fr0 := hHX.fr (o := 0)
                have fr1 := hHX.fr (o := 1)
                have HHX := Lib.hid (hHX.put n0 n1')
                have hBo := below_two hBr hBi
                clear hHX
                go_wp2
                go_roundw
                case rel => exact ⟨k + 1, by omega, by go_num, Lib.hid (by rw [HB.out, HPB2.out]; exact HHX.out), set1_below (set1_below hBo (Nat.le_refl _)) (Nat.le_refl _)⟩
                case measure => simp [intOf]; omega
          · have hk1 : ¬ (0 : Int) < (k : Int) := by omega
            have hk2 : decide ((0 : Int) < (k : Int)) = false := decide_eq_false hk1
            clear hheavy
            go_wp2_with fail
            go_loopw [28] (fun i wr => InRel nb wc i wr) (fun i _ => nb - (intOf i).toNat)
            case atStart => exact ⟨0, by omega, rfl, Below.refl _ _⟩
            case round =>
              obtain ⟨i, hi, rfl, hBi⟩ := hrel
              replace b0 := cell_later hBi b0
              replace b1 := cell_later hBi b1
              replace xc0 := cell_later hBi xc0
              replace xc1 := cell_later hBi xc1
              have zx2 := World.block_lt_of_cell? _ _ xc0
              have zb2 := World.block_lt_of_cell? _ _ b0
              simp only at zx2 zb2
              by_cases hlt3 : i < nb
              · have hlt3' : (i : Int) < (nb : Int) := by omega
                obtain ⟨p3, c3, e3, _, hc3⟩ := HBr.out.later hBi
                obtain ⟨b3, o3, e4, q0, q1⟩ := hc3 i _ (Met.bts_at (by rw [HNBB.out]; exact hlt3))
                obtain rfl : p3 = pb := by cases e3; rfl
                clear e3 hc3
                subst e4
                obtain ⟨hib, hno⟩ := HBE.out i hlt3
                obtain ⟨TT, HTT⟩ : ∃ TT, Hid (Met.of (Met.ah (Met.grp N D lm) i) D = TT) := ⟨_, Lib.hid rfl⟩
                rw [HTT.out] at q0 q1 hib
                obtain ⟨t0, t1⟩ := TT
                dsimp only at q0 q1
                generalize Met.ah (Met.grp N D lm) i * S = T at *
                have hm1 := hib.cm HIA.out
                have hm2 := hib.cm HIB.out
                obtain ⟨m1, HM1⟩ : ∃ m1, Hid (Met.cm (t0, t1) (a0, a1) = m1) := ⟨_, Lib.hid rfl⟩
                obtain ⟨m2, HM2⟩ : ∃ m2, Hid (Met.cm (t0, t1) (n0, n1') = m2) := ⟨_, Lib.hid rfl⟩
                rw [HM1.out] at hm1
                rw [HM2.out] at hm2
                have zq := World.block_lt_of_cell? _ _ q0
                simp only at zq
                by_cases hT : A < T
                · have hp1 : 0 < m1 := by rw [hm1, Met.sgn_gt]; omega
                  have hp2 : ¬ m2 < 0 := by rw [hm2, Met.sgn_lt]; omega
                  have hp3 : decide (0 < m1) = true := decide_eq_true hp1
                  have hp4 : decide (m2 < 0) = false := decide_eq_false hp2
                  clear hm1 hm2 hno hT hib
                  go_wp2_with fail
                  have g_q0 := fun dd os => cell_regrown q0 dd os
                  have g_q1 := fun dd os => cell_regrown q1 dd os
                  have g_b0 := fun dd os => cell_regrown b0 dd os
                  have g_b1 := fun dd os => cell_regrown b1 dd os
                  have g_xc0 := fun dd os => cell_regrown xc0 dd os
                  have g_xc1 := fun dd os => cell_regrown xc1 dd os
                  have q0 : Hid (∀ dd os, Calls Try.prog 32 #[rt t0 t1, rt a0 a1] (Go.Sort.grow (redrawn wr dd) os) fun e w'' => e = .returned (.int .i64 m1) ∧ ∃ p : Regrown, w'' = Go.Sort.grow (redrawn wr p.d) p.os) := Lib.hid (fun dd os => Calls.regrown_of (cmpL HM1.out (Go.Sort.grow (redrawn wr dd) os)))
                  have q1 : Hid (∀ dd os, Calls Try.prog 32 #[rt t0 t1, rt n0 n1'] (Go.Sort.grow (redrawn wr dd) os) fun e w'' => e = .returned (.int .i64 m2) ∧ ∃ p : Regrown, w'' = Go.Sort.grow (redrawn wr p.d) p.os) := Lib.hid (fun dd os => Calls.regrown_of (cmpL HM2.out (Go.Sort.grow (redrawn wr dd) os)))
                  refine wp_region_quiet_below (by kernel_rfl) (by kernel_rfl) ?_
                  repeat (go_big_quiet_step (first | (go_at_call 32; with_reducible exact q0.out _ _) | (go_at_call 32; with_reducible exact q1.out _ _)))
                  refine wpQuiet_nil ?_
                  intro _ hw'
                  obtain ⟨⟨dq, osq⟩, hw''⟩ := hw'
                  subst hw''
                  replace q0 := g_q0 dq osq
                  clear g_q0
                  replace q1 := g_q1 dq osq
                  clear g_q1
                  replace b0 := g_b0 dq osq
                  clear g_b0
                  replace b1 := g_b1 dq osq
                  clear g_b1
                  replace xc0 := g_xc0 dq osq
                  clear g_xc0
                  replace xc1 := g_xc1 dq osq
                  clear g_xc1
                  clear q0 q1
                  have hb_wz := below_regrown wr dq osq
                  generalize Go.Sort.grow (redrawn wr dq) osq = wz at *
                  go_wp2
                  go_roundw
                  case rel => exact ⟨i + 1, by omega, by go_num, below_two hBi hb_wz⟩
                  case measure => simp [intOf]; omega
                · have hp1 : ¬ 0 < m1 := by rw [hm1, Met.sgn_gt]; omega
                  have hp3 : decide (0 < m1) = false := decide_eq_false hp1
                  clear hm1 hm2 hno hT hib HM2
                  go_wp2_with fail
                  have g_q0 := fun dd os => cell_regrown q0 dd os
                  have g_q1 := fun dd os => cell_regrown q1 dd os
                  have g_b0 := fun dd os => cell_regrown b0 dd os
                  have g_b1 := fun dd os => cell_regrown b1 dd os
                  have g_xc0 := fun dd os => cell_regrown xc0 dd os
                  have g_xc1 := fun dd os => cell_regrown xc1 dd os
                  have q0 : Hid (∀ dd os, Calls Try.prog 32 #[rt t0 t1, rt a0 a1] (Go.Sort.grow (redrawn wr dd) os) fun e w'' => e = .returned (.int .i64 m1) ∧ ∃ p : Regrown, w'' = Go.Sort.grow (redrawn wr p.d) p.os) := Lib.hid (fun dd os => Calls.regrown_of (cmpL HM1.out (Go.Sort.grow (redrawn wr dd) os)))
                  refine wp_region_quiet_below (by kernel_rfl) (by kernel_rfl) ?_
                  repeat (go_big_quiet_step (first | (go_at_call 32; with_reducible exact q0.out _ _)))
                  refine wpQuiet_nil ?_
                  intro _ hw'
                  obtain ⟨⟨dq, osq⟩, hw''⟩ := hw'
                  subst hw''
                  replace q0 := g_q0 dq osq
                  clear g_q0
                  replace q1 := g_q1 dq osq
                  clear g_q1
                  replace b0 := g_b0 dq osq
                  clear g_b0
                  replace b1 := g_b1 dq osq
                  clear g_b1
                  replace xc0 := g_xc0 dq osq
                  clear g_xc0
                  replace xc1 := g_xc1 dq osq
                  clear g_xc1
                  clear q0
                  have hb_wz := below_regrown wr dq osq
                  generalize Go.Sort.grow (redrawn wr dq) osq = wz at *
                  go_wp2
                  go_roundw
                  case rel => exact ⟨i + 1, by omega, by go_num, below_two hBi hb_wz⟩
                  case measure => simp [intOf]; omega
              · have hHX := HBX.out.kept (hBi.block _ HBX.out.lt)
                have fr0 := hHX.fr (o := 0)
                have fr1 := hHX.fr (o := 1)
                have HHX := Lib.hid (hHX.put n0 n1')
                have hBo := below_two hBr hBi
                clear hHX
                go_wp2
                go_roundw
                case rel => exact ⟨k + 1, by omega, by go_num, Lib.hid (by rw [HB.out, HPB2.out]; exact HHX.out), set1_below (set1_below hBo (Nat.le_refl _)) (Nat.le_refl _)⟩
                case measure => simp [intOf]; omega
      · obtain rfl : k = nl := by omega
        have e : zat z k = E := by unfold zat; rw [HZS.out.last]; rfl
        rw [e, HYE.out] at b0 b1
        dsimp only at b0 b1
        have ee0 := cell_later hBr xc0
        have ee1 := cell_later hBr xc1
        clear e
        go_wp2
        go_ret
        exact ⟨rfl, below_two hB104 hBr⟩

set_option maxRecDepth 100000 in
set_option maxHeartbeats 4000000 in
theorem meterCut_no (a b : Int) (v : Value) (gs : List Int) (gr : Bool) (at_ n_ of_ : Int) (w : World) (hI : Ints w v gs) (ia : Rat.I64 a) (ib : Rat.I64 b) (hgs : ∀ z ∈ gs, Rat.I64 z) (iat : Rat.I64 at_) (inn : Rat.I64 n_) (iof : Rat.I64 of_) (hup : ¬ mkK (mkN a) at_ of_ < 1 + pickS n_ (mkN a * mkS of_)) : LawHolds 6 #[mt a b v, .bool gr, .int .i64 at_, .int .i64 n_, .int .i64 of_] w := by
  unfold LawHolds
  obtain ⟨px, cx, rfl, hlx, hcx⟩ := hI
  have HX : Hid (Ints w (.slice px gs.length cx) gs) := Lib.hid ⟨px, cx, rfl, hlx, hcx⟩
  clear hlx hcx
  have HGS := Lib.hid hgs
  clear hgs
  obtain ⟨N, HN⟩ : ∃ N, Hid (mkN a = N) := ⟨_, Lib.hid rfl⟩
  obtain ⟨D, HD⟩ : ∃ D, Hid (mkD b = D) := ⟨_, Lib.hid rfl⟩
  obtain ⟨S, HS⟩ : ∃ S, Hid (mkS of_ = S) := ⟨_, Lib.hid rfl⟩
  obtain ⟨n1, n32⟩ := mkN_b a
  obtain ⟨d1, d64⟩ := mkD_b b
  obtain ⟨s1, s12⟩ := mkS_b of_
  rw [HN.out] at n1 n32
  rw [HD.out] at d1 d64
  rw [HS.out] at s1 s12
  obtain ⟨ns1, ns2⟩ := mul_b n1 n32 s1 s12
  obtain ⟨ds1, ds2⟩ := mul_b d1 d64 s1 s12
  obtain ⟨K, HK⟩ : ∃ K, Hid (mkK N at_ of_ = K) := ⟨_, Lib.hid rfl⟩
  obtain ⟨k0, k1⟩ := mkK_b (N := N) (a := at_) (o := of_) n1
  rw [HK.out] at k0
  rw [HK.out, HS.out] at k1
  obtain ⟨e0', e1'⟩ := pickS_bounds n_ (n := N * S) ns1
  obtain ⟨Q, HQ⟩ : ∃ Q, Hid (pickS n_ (N * S) = Q) := ⟨_, Lib.hid rfl⟩
  rw [HQ.out] at e0' e1'
  obtain ⟨E, hE⟩ : ∃ E, 1 + Q = E := ⟨_, rfl⟩
  obtain ⟨DD, HDD⟩ : ∃ DD, Hid (D * S = DD) := ⟨_, Lib.hid rfl⟩
  obtain ⟨NS, HNS⟩ : ∃ NS, Hid (N * S = NS) := ⟨_, Lib.hid rfl⟩
  rw [HNS.out] at ns1 ns2 k1 e1'
  rw [HNS.out] at HQ
  rw [HDD.out] at ds1 ds2
  have iK : Met.Is (Met.of K DD) K DD := Met.is_of ds1 (by omega) (by omega) (by omega)
  have iE : Met.Is (Met.of E DD) E DD := Met.is_of ds1 (by omega) (by omega) (by omega)
  obtain ⟨j0, j1⟩ := iE.sb iK (by omega) (by omega) (by omega)
  obtain ⟨X, HXK⟩ : ∃ X, Hid (Met.of K DD = X) := ⟨_, Lib.hid rfl⟩
  obtain ⟨Y, HYE⟩ : ∃ Y, Hid (Met.of E DD = Y) := ⟨_, Lib.hid rfl⟩
  rw [HXK.out] at iK j0 j1
  rw [HYE.out] at iE j0 j1
  obtain ⟨u0, u1⟩ := X
  obtain ⟨y0, y1⟩ := Y
  obtain ⟨Z, HZL⟩ : ∃ Z, Hid (Met.sb (y0, y1) (u0, u1) = Z) := ⟨_, Lib.hid rfl⟩
  rw [HZL.out] at j1
  obtain ⟨l0, l1⟩ := Z
  have HJ0 := Lib.hid j0
  have HJ1 := Lib.hid j1
  have HIK := Lib.hid iK
  have HIE := Lib.hid iE
  have hnum := j1.num_pos
  dsimp only at hnum
  have HNUM := Lib.hid hnum
  obtain ⟨pe, HPE⟩ : ∃ pe, Hid (pickS of_ 12 = pe) := ⟨_, Lib.hid rfl⟩
  have hse : 1 + pe = S := by have := HS.out; unfold mkS at this; rw [HPE.out] at this; exact this
  have hw1 : IntKind.i64.wrap (1 + pe) = S := by rw [IntWalk.i64_in _ (by omega)]; exact hse
  have hw2 : IntKind.i64.wrap (N * S) = NS := by rw [HNS.out]; exact IntWalk.i64_in _ (by omega)
  have hw3 : IntKind.i64.wrap (D * S) = DD := by rw [HDD.out]; exact IntWalk.i64_in _ (by omega)
  have hw4 : IntKind.i64.wrap (1 + Q) = E := by rw [IntWalk.i64_in _ (by omega)]; exact hE
  have HEQ : Hid (1 + Q = E) := Lib.hid hE
  have HPL : Hid (Met.of (mkK N at_ of_) (D * mkS of_) = (u0, u1)) := Lib.hid (by rw [HK.out, HS.out, HDD.out]; exact HXK.out)
  have HOF : Hid (Rat.ofN E DD = y0 ∧ Rat.ofD E DD = y1 ∧ Rat.ofE E DD = 0) := Lib.hid ⟨congrArg Prod.fst HYE.out, congrArg Prod.snd HYE.out, Met.of_small ds1 (by omega) (by omega) (by omega)⟩
  have iEE : Rat.I64 E := i64_small (by omega) (by omega)
  have iDD : Rat.I64 DD := i64_small (by omega) (by omega)
  have hEb : 1 ≤ E ∧ E ≤ NS := by omega
  obtain ⟨hE1, hE2⟩ := hEb
  clear j0 j1 iK iE hnum hse hE e0' e1'
  have hgR := guardR
  have heR := eql_rt
  have hnR := neq_rt
  have hsR := eqR_self
  rw [HN.out, HK.out, HS.out, HNS.out, HQ.out, HEQ.out] at hup
  have hB0 : Below w.heap.size w w := Below.refl _ _
  go_enter Try.func6, Try.ntmps6
  go_wp2_with fail
  refine (awake_any _).mono ?_
  rintro e w1 ⟨rfl, hb1⟩
  have hs1 : Below w.heap.size w w1 := Below.trans (by repeat (first | exact Below.refl _ _ | refine Below.alloc ?_ (by simp <;> omega) _)) (hb1.mono (by simp <;> omega))
  have c_x_0 : w1.cell? ⟨w.heap.size, 0, none⟩ = some (.int .i64 a) := (hb1.cell (by simp <;> omega)).trans (by go_simp)
  have c_x_1 : w1.cell? ⟨w.heap.size, 1, none⟩ = some (.int .i64 b) := (hb1.cell (by simp <;> omega)).trans (by go_simp)
  have c_x_2 : w1.cell? ⟨w.heap.size, 2, none⟩ = some (.slice px gs.length cx) := (hb1.cell (by simp <;> omega)).trans (by go_simp)
  have z_x := World.block_lt_of_cell? _ _ c_x_0
  have hB1 := below_two hB0 hs1
  clear hB0 hs1 hb1
  go_wp2_with fail
  have hs2 : Below w1.heap.size w1 w1 := by repeat (first | exact Below.refl _ _ | refine Below.alloc ?_ (by simp <;> omega) _)
  replace c_x_0 := cell_later hs2 c_x_0
  replace c_x_1 := cell_later hs2 c_x_1
  replace c_x_2 := cell_later hs2 c_x_2
  have hB2 := below_two hB1 hs2
  clear hB1 hs2
  have y2_x := z_x
  generalize w1 = w2 at *
  clear z_x
  have z_x := World.block_lt_of_cell? _ _ c_x_0
  go_wp2_with fail
  refine (meterL HN.out HD.out _ gs _ (HX.out.later hB2) ia ib HGS.out gr).mono ?_
  rintro e w3 ⟨⟨um, rfl, lm, him, hrm, hzm⟩, hb3⟩
  have hs3 := hb3
  replace c_x_0 := cell_later hs3 c_x_0
  replace c_x_1 := cell_later hs3 c_x_1
  replace c_x_2 := cell_later hs3 c_x_2
  clear z_x
  have z_x := World.block_lt_of_cell? _ _ c_x_0
  have hB3 := below_two hB2 hs3
  clear hB2 hs3
  obtain ⟨pm, cm, rfl, hlm, hcm⟩ := him
  have HIm : Hid (Ints _ (.slice pm lm.length cm) lm) := Lib.hid ⟨pm, cm, rfl, hlm, hcm⟩
  have HRm := Lib.hid hrm
  clear hcm hrm
  go_wp2_with fail
  have hs4 : Below w3.heap.size w3 (w3.alloc (.cells #[.int .i64 N, .int .i64 D, .slice pm lm.length cm] 24)) := by repeat (first | exact Below.refl _ _ | refine Below.alloc ?_ (by simp <;> omega) _)
  clear c_x_0
  clear c_x_1
  clear c_x_2
  replace HIm := Lib.hid (HIm.out.later hs4)
  have c_m_0 : (w3.alloc (.cells #[.int .i64 N, .int .i64 D, .slice pm lm.length cm] 24)).cell? ⟨w3.heap.size, 0, none⟩ = some (.int .i64 N) := by go_simp
  have c_m_1 : (w3.alloc (.cells #[.int .i64 N, .int .i64 D, .slice pm lm.length cm] 24)).cell? ⟨w3.heap.size, 1, none⟩ = some (.int .i64 D) := by go_simp
  have c_m_2 : (w3.alloc (.cells #[.int .i64 N, .int .i64 D, .slice pm lm.length cm] 24)).cell? ⟨w3.heap.size, 2, none⟩ = some (.slice pm lm.length cm) := by go_simp
  have hB4 := below_two hB3 hs4
  clear hB3 hs4
  have y4_x := z_x
  generalize (w3.alloc (.cells #[.int .i64 N, .int .i64 D, .slice pm lm.length cm] 24)) = w4 at *
  have z_m := World.block_lt_of_cell? _ _ c_m_0
  clear z_x
  have HRR := Lib.hid (Met.isRight HRm.out)
  go_wp2_with fail
  refine (placeL HIm.out HRm.out iat iof HPL.out).mono ?_
  rintro e w5 ⟨rfl, hb5⟩
  have hs5 := hb5
  replace HIm := Lib.hid (HIm.out.later hs5)
  replace c_m_0 := cell_later hs5 c_m_0
  replace c_m_1 := cell_later hs5 c_m_1
  replace c_m_2 := cell_later hs5 c_m_2
  clear z_m
  have z_m := World.block_lt_of_cell? _ _ c_m_0
  have hB5 := below_two hB4 hs5
  clear hB4 hs5
  go_wp2_with fail
  have hs6 : Below w5.heap.size w5 (w5.alloc (.cells #[.int .i64 u0, .int .i64 u1] 26)) := by repeat (first | exact Below.refl _ _ | refine Below.alloc ?_ (by simp <;> omega) _)
  replace HIm := Lib.hid (HIm.out.later hs6)
  replace c_m_0 := cell_later hs6 c_m_0
  replace c_m_1 := cell_later hs6 c_m_1
  replace c_m_2 := cell_later hs6 c_m_2
  have c_f_0 : (w5.alloc (.cells #[.int .i64 u0, .int .i64 u1] 26)).cell? ⟨w5.heap.size, 0, none⟩ = some (.int .i64 u0) := by go_simp
  have c_f_1 : (w5.alloc (.cells #[.int .i64 u0, .int .i64 u1] 26)).cell? ⟨w5.heap.size, 1, none⟩ = some (.int .i64 u1) := by go_simp
  have hB6 := below_two hB5 hs6
  clear hB5 hs6
  have y6_m := z_m
  generalize (w5.alloc (.cells #[.int .i64 u0, .int .i64 u1] 26)) = w6 at *
  have z_f := World.block_lt_of_cell? _ _ c_f_0
  clear z_m
  have z_m := World.block_lt_of_cell? _ _ c_m_0
  simp only at z_m z_f
  have hBr0 : Below w6.heap.size w6 w6 := Below.refl _ _
  go_cut [14, 15] (fun p e wx => AtR y0 y1 w6 p wx ∧ e = .int .i64 0)
  case first =>
    have RA : Hid (∀ u, Below (w6.alloc (.cells #[.int .i64 0, .int .i64 0] 26)).drew.heap.size (w6.alloc (.cells #[.int .i64 0, .int .i64 0] 26)).drew u → u.cell? ⟨w6.heap.size, 0, none⟩ = some (.int .i64 0) ∧ u.cell? ⟨w6.heap.size, 1, none⟩ = some (.int .i64 0) ∧ u.frozen? ⟨w6.heap.size, 0, none⟩ = false ∧ u.frozen? ⟨w6.heap.size, 1, none⟩ = false ∧ Below w6.heap.size w6 u) := Lib.hid (fun u hq => by
      have e0 : (w6.alloc (.cells #[.int .i64 0, .int .i64 0] 26)).drew.cell? ⟨w6.heap.size, 0, none⟩ = some (.int .i64 0) := cell_drew (by go_simp)
      have e1 : (w6.alloc (.cells #[.int .i64 0, .int .i64 0] 26)).drew.cell? ⟨w6.heap.size, 1, none⟩ = some (.int .i64 0) := cell_drew (by go_simp)
      exact ⟨cell_later hq e0, cell_later hq e1, frozen_later hq e0 (frozen_drew (by go_simp)), frozen_later hq e1 (frozen_drew (by go_simp)), below_two (alloc_below hBr0).drew hq⟩)
    have RB : Hid (∀ u, Below w6.drew.heap.size w6.drew u → u.cell? ⟨w3.heap.size, 0, none⟩ = some (.int .i64 N) ∧ u.cell? ⟨w3.heap.size, 1, none⟩ = some (.int .i64 D) ∧ Below w6.heap.size w6 u) := Lib.hid (fun u hq => ⟨cell_later hq (cell_drew c_m_0), cell_later hq (cell_drew c_m_1), below_two hBr0.drew hq⟩)
    clear c_m_2 c_f_0 c_f_1
    go_region_held3 (fun w' => w'.cell? ⟨w3.heap.size, 0, none⟩ = some (.int .i64 N) ∧ w'.cell? ⟨w3.heap.size, 1, none⟩ = some (.int .i64 D) ∧ Below w6.heap.size w6 w')
      (((try go_split_ands); refine ⟨?_, ?_, ?_⟩ <;> first | with_reducible assumption | (with_reducible refine cell_later hq ?_; with_reducible assumption) | (with_reducible refine below_two ?_ hq; with_reducible assumption) | (with_reducible refine alloc_cell ?_; with_reducible assumption) | (with_reducible refine alloc_below ?_; with_reducible assumption) | (with_reducible refine set_far ?_ (set_far ?_ ?_); omega; omega; with_reducible assumption) | (with_reducible refine put2_below ?_ ?_; with_reducible assumption; omega) | with_reducible exact cell_drew c_m_0 | with_reducible exact cell_drew c_m_1 | with_reducible exact hBr0.drew | with_reducible exact cell_drew (alloc_cell c_m_0) | with_reducible exact cell_drew (alloc_cell c_m_1) | with_reducible exact (alloc_below hBr0).drew))
      (first
        | (go_at_call 30; first | (with_reducible refine (pick_is iof (by decide) (by decide) HPE.out _).mono ?_; rintro ed wx ⟨rfl, rfl⟩) | (with_reducible refine (pick_is inn ns1 (by omega) HQ.out _).mono ?_; rintro ed wx ⟨rfl, rfl⟩))
        | (go_at_call 29; first
            | (with_reducible refine (refOf_any E DD w6.drew iEE iDD).mono ?_; rintro ed u5 ⟨rfl, hq⟩; rw [HOF.out.1, HOF.out.2.1, HOF.out.2.2]; obtain ⟨n_c_m_0, n_c_m_1, hb5⟩ := RB.out _ hq)
            | (with_reducible refine (refOf_any E DD (w6.alloc (.cells #[.int .i64 0, .int .i64 0] 26)).drew iEE iDD).mono ?_; rintro ed u5 ⟨rfl, hq⟩; rw [HOF.out.1, HOF.out.2.1, HOF.out.2.2]; obtain ⟨r_0, r_1, f_0, f_1, hb5⟩ := RA.out _ hq)))
    all_goals (first
      | (go_wp2_with fail; go_meet; case rel => exact ⟨⟨_, rfl, (put2_of r_0 r_1).1, (put2_of r_0 r_1).2, put2_below hb5 (by omega)⟩, rfl⟩)
      | (go_wp2_with fail; go_meet; case rel => exact ⟨⟨_, rfl, by go_simp, by go_simp, alloc_below hb5⟩, rfl⟩))
  case rest =>
    obtain ⟨⟨A1, rfl, xc0, xc1, hBx⟩, rfl⟩ := hcut
    replace c_m_0 := cell_later hBx c_m_0
    replace c_m_1 := cell_later hBx c_m_1
    replace c_m_2 := cell_later hBx c_m_2
    replace c_f_0 := cell_later hBx c_f_0
    replace c_f_1 := cell_later hBx c_f_1
    replace HIm := Lib.hid (HIm.out.later hBx)
    have hB := below_two hB6 hBx
    clear hB6 hBx hBr0 z_m z_f
    have hB100 := hB
    clear hB
    have z_e := World.block_lt_of_cell? _ _ xc0
    have z_f := World.block_lt_of_cell? _ _ c_f_0
    have z_m := World.block_lt_of_cell? _ _ c_m_0
    go_wp2_with fail
    refine (subL HZL.out HJ0.out _).mono ?_
    rintro e w101 ⟨rfl, hb101⟩
    have hs101 := hb101
    replace HIm := Lib.hid (HIm.out.later hs101)
    replace c_m_0 := cell_later hs101 c_m_0
    replace c_m_1 := cell_later hs101 c_m_1
    replace c_m_2 := cell_later hs101 c_m_2
    replace c_f_0 := cell_later hs101 c_f_0
    replace c_f_1 := cell_later hs101 c_f_1
    replace xc0 := cell_later hs101 xc0
    replace xc1 := cell_later hs101 xc1
    clear z_e
    have z_e := World.block_lt_of_cell? _ _ xc0
    clear z_f
    have z_f := World.block_lt_of_cell? _ _ c_f_0
    clear z_m
    have z_m := World.block_lt_of_cell? _ _ c_m_0
    have hB101 := below_two hB100 hs101
    clear hB100 hs101
    go_wp2_with fail
    have hs102 : Below w101.heap.size w101 (w101.alloc (.cells #[.int .i64 l0, .int .i64 l1] 26)) := by repeat (first | exact Below.refl _ _ | refine Below.alloc ?_ (by simp <;> omega) _)
    replace HIm := Lib.hid (HIm.out.later hs102)
    replace c_m_0 := cell_later hs102 c_m_0
    replace c_m_1 := cell_later hs102 c_m_1
    replace c_m_2 := cell_later hs102 c_m_2
    replace c_f_0 := cell_later hs102 c_f_0
    replace c_f_1 := cell_later hs102 c_f_1
    replace xc0 := cell_later hs102 xc0
    replace xc1 := cell_later hs102 xc1
    have c_n_0 : (w101.alloc (.cells #[.int .i64 l0, .int .i64 l1] 26)).cell? ⟨w101.heap.size, 0, none⟩ = some (.int .i64 l0) := by go_simp
    have c_n_1 : (w101.alloc (.cells #[.int .i64 l0, .int .i64 l1] 26)).cell? ⟨w101.heap.size, 1, none⟩ = some (.int .i64 l1) := by go_simp
    have hB102 := below_two hB101 hs102
    clear hB101 hs102
    have y102_e := z_e
    have y102_f := z_f
    have y102_m := z_m
    generalize (w101.alloc (.cells #[.int .i64 l0, .int .i64 l1] 26)) = w102 at *
    clear z_e
    have z_e := World.block_lt_of_cell? _ _ xc0
    clear z_f
    have z_f := World.block_lt_of_cell? _ _ c_f_0
    clear z_m
    have z_m := World.block_lt_of_cell? _ _ c_m_0
    have z_n := World.block_lt_of_cell? _ _ c_n_0
    have hl0 : l0 ≤ 0 := by have := HNUM.out.1; omega
    have HCT : Hid (Met.ct N D lm (u0, u1) (l0, l1) = (2, [])) := Lib.hid (Met.ct_no HRR.out s1 (K := K) (L := E - K) (by rw [HDD.out]; exact HIK.out) (by rw [HDD.out]; exact HJ1.out) k0 (by rw [HNS.out]; exact k1) (by omega))
    go_wp2_with fail
    refine (cut_is HIm.out HCT.out).mono ?_
    rintro e w103 ⟨⟨ul, rfl, hPl⟩, hb103⟩
    have hs103 := hb103
    replace HIm := Lib.hid (HIm.out.later hs103)
    replace c_m_0 := cell_later hs103 c_m_0
    replace c_m_1 := cell_later hs103 c_m_1
    replace c_m_2 := cell_later hs103 c_m_2
    replace c_f_0 := cell_later hs103 c_f_0
    replace c_f_1 := cell_later hs103 c_f_1
    replace xc0 := cell_later hs103 xc0
    replace xc1 := cell_later hs103 xc1
    replace c_n_0 := cell_later hs103 c_n_0
    replace c_n_1 := cell_later hs103 c_n_1
    clear z_e
    have z_e := World.block_lt_of_cell? _ _ xc0
    clear z_f
    have z_f := World.block_lt_of_cell? _ _ c_f_0
    clear z_m
    have z_m := World.block_lt_of_cell? _ _ c_m_0
    clear z_n
    have z_n := World.block_lt_of_cell? _ _ c_n_0
    have hB103 := below_two hB102 hs103
    clear hB102 hs103
    obtain ⟨pl, cl, rfl, _, _⟩ := hPl
    go_wp2
    go_ret
    exact ⟨rfl, hB103⟩

theorem meterCut_calls (a b : Int) (v : Value) (gs : List Int) (gr : Bool) (at_ n_ of_ : Int) (w : World) (hI : Ints w v gs) (ia : Rat.I64 a) (ib : Rat.I64 b) (hgs : ∀ z ∈ gs, Rat.I64 z) (iat : Rat.I64 at_) (inn : Rat.I64 n_) (iof : Rat.I64 of_) : LawHolds 6 #[mt a b v, .bool gr, .int .i64 at_, .int .i64 n_, .int .i64 of_] w := by
  by_cases hup : mkK (mkN a) at_ of_ < 1 + pickS n_ (mkN a * mkS of_)
  · exact meterCut_up a b v gs gr at_ n_ of_ w hI ia ib hgs iat inn iof hup
  · exact meterCut_no a b v gs gr at_ n_ of_ w hI ia ib hgs iat inn iof hup
end Go.Proofs.Ytlodhfdikglgoaa
