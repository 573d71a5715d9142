/-
  MeterAgain answers true: the law's walk.
-/
import Derived.Test.YtlodhfdikglgoaaMeterCut
namespace Go.Proofs.Ytlodhfdikglgoaa
open Go.RowKit

theorem box2_far {W : World} {B b o : Nat} {p : Met.Pr} {v : Value} (h : Box2 W B p) (hc : W.cell? ⟨b, o, none⟩ = some v) (ho : 2 ≤ o) : b ≠ B := by
  rintro rfl
  unfold World.cell? at hc
  rw [show W.heap[b]? = _ from h] at hc
  simp at hc
  have := (List.getElem?_eq_some_iff.1 hc).1
  simp at this
  omega
theorem zs_near {A B : Int} {bs : List Int} (h : ∀ b ∈ bs, ¬ (A < b ∧ b < B)) : Met.dif (Met.zs A B bs) = [B - A] := by
  have : bs.filter (fun b => decide (A < b ∧ b < B)) = [] := List.filter_eq_nil_iff.2 (fun b hb => by simpa using h b hb)
  unfold Met.zs
  rw [this]
  rfl
theorem whole_len {N D : Int} {gs : List Int} (h : Met.IsRight N D gs) : (Met.dif (Met.zs 0 N (Met.zb 1 (Met.grp N D gs)))).length = (Met.grp N D gs).length := by
  rw [Met.dif_length, Met.zs_length]
  have hl := h.len
  have key : ((Met.zb 1 (Met.grp N D gs)).filter (fun b => decide (0 < b ∧ b < N))).length = (Met.grp N D gs).length - 1 := by
    unfold Met.zb
    obtain ⟨n, hn⟩ : ∃ n, (Met.grp N D gs).length = n + 1 := ⟨(Met.grp N D gs).length - 1, by omega⟩
    have hb : ∀ k, k < (Met.grp N D gs).length → Met.ah (Met.grp N D gs) k < N := fun k hk => (h.ah_bounds hk).2
    have hp : ∀ k, 0 < k → k < (Met.grp N D gs).length → 0 < Met.ah (Met.grp N D gs) k := fun k h0 hk => by have := Met.ah_mono h.pos h0 (by omega); rw [Met.ah_zero] at this; exact this
    generalize Met.grp N D gs = G at *
    rw [hn, List.range_succ_eq_map, List.map_cons, List.filter_cons_of_neg (by simp [Met.ah_zero]), List.filter_eq_self.2]
    · simp
    · intro b hm
      obtain ⟨k, hk, rfl⟩ := List.mem_map.1 hm
      obtain ⟨j, hj, rfl⟩ := List.mem_map.1 hk
      have hj' := List.mem_range.1 hj
      have h1 := hb (j + 1) (by omega)
      have h2 := hp (j + 1) (by omega) (by omega)
      simp only [decide_eq_true_eq, Nat.succ_eq_add_one]
      omega
  rw [key]
  omega
theorem Box2.later {W W' : World} {B : Nat} {p : Met.Pr} (h : Box2 W B p) (hb : Below W.heap.size W W') : Box2 W' B p := h.kept (hb.block B h.lt)
theorem prs_one {W : World} {u : Value} {a b : Int} (h : Prs W u [(a, b)]) : ∃ bo oo co, u = .slice (some ⟨bo, oo, none⟩) 1 co ∧ W.cell? ⟨bo, oo, none⟩ = some (.int .i64 a) ∧ W.cell? ⟨bo, oo + 1, none⟩ = some (.int .i64 b) := by
  obtain ⟨p, c, rfl, _, hc⟩ := h
  obtain ⟨bo, oo, rfl, h1, h2⟩ := hc 0 (a, b) rfl
  exact ⟨bo, oo, c, rfl, by simpa using h1, by simpa using h2⟩
structure BQ (q w : World) : Prop where
  b : Below q.heap.size q w
theorem BQ.later {q w w' : World} (h : BQ q w) (hb : Below w.heap.size w w') : BQ q w' := ⟨below_two h.b hb⟩
def AgRel (DD : Int) (z : List Int) (n bl ol : Nat) (w0 : World) (i : Value) (wr : World) : Prop := ∃ k : Nat, k ≤ n ∧ i = .int .i64 (k : Int) ∧ Hid (Box2 wr w0.heap.size (Met.of (zat z k) DD)) ∧ Below w0.heap.size w0 wr ∧ Hid (∀ i, k ≤ i → i < n → wr.cell? ⟨bl, ol + i * 2, none⟩ = some (.int .i64 (Met.of (zat z (i + 1) - zat z i) DD).1) ∧ wr.cell? ⟨bl, ol + i * 2 + 1, none⟩ = some (.int .i64 (Met.of (zat z (i + 1) - zat z i) DD).2))

set_option maxRecDepth 100000 in
set_option maxHeartbeats 4000000 in
theorem meterAgain_calls (a b : Int) (v : Value) (gs : List Int) (gr : Bool) (at_ of_ : Int) (w : World) (hI : Ints w v gs) (ia : Rat.I64 a) (ib : Rat.I64 b) (hgs : ∀ z ∈ gs, Rat.I64 z) (iat : Rat.I64 at_) (iof : Rat.I64 of_) : LawHolds 7 #[mt a b v, .bool gr, .int .i64 at_, .int .i64 of_] w := by
  unfold LawHolds
  obtain ⟨px, cx, rfl, hlx, hcx⟩ := hI
  have HX : Hid (Ints w (.slice px gs.length cx) gs) := Lib.hid ⟨px, cx, rfl, hlx, hcx⟩
  clear hlx hcx
  have HGS := Lib.hid hgs
  clear hgs
  obtain ⟨N, HN⟩ : ∃ N, Hid (mkN a = N) := ⟨_, Lib.hid rfl⟩
  obtain ⟨D, HD⟩ : ∃ D, Hid (mkD b = D) := ⟨_, Lib.hid rfl⟩
  obtain ⟨S, HS⟩ : ∃ S, Hid (mkS of_ = S) := ⟨_, Lib.hid rfl⟩
  obtain ⟨n1, n32⟩ := mkN_b a
  obtain ⟨d1, d64⟩ := mkD_b b
  obtain ⟨s1, s12⟩ := mkS_b of_
  rw [HN.out] at n1 n32
  rw [HD.out] at d1 d64
  rw [HS.out] at s1 s12
  obtain ⟨ns1, ns2⟩ := mul_b n1 n32 s1 s12
  obtain ⟨ds1, ds2⟩ := mul_b d1 d64 s1 s12
  obtain ⟨K, HK⟩ : ∃ K, Hid (mkK N at_ of_ = K) := ⟨_, Lib.hid rfl⟩
  obtain ⟨k0, k1⟩ := mkK_b (N := N) (a := at_) (o := of_) n1
  rw [HK.out] at k0
  rw [HK.out, HS.out] at k1
  obtain ⟨DD, HDD⟩ : ∃ DD, Hid (D * S = DD) := ⟨_, Lib.hid rfl⟩
  obtain ⟨NS, HNS⟩ : ∃ NS, Hid (N * S = NS) := ⟨_, Lib.hid rfl⟩
  rw [HNS.out] at ns1 ns2 k1
  rw [HDD.out] at ds1 ds2
  have iK : Met.Is (Met.of K DD) K DD := Met.is_of ds1 (by omega) (by omega) (by omega)
  have iW : Met.Is (Met.of N D) N D := Met.is_of d1 (by omega) (by omega) (by omega)
  have iE : Met.Is (Met.of N D) NS DD := by have := iW.scale s1; rw [HNS.out, HDD.out] at this; exact this
  obtain ⟨j0, j1⟩ := iE.sb iK (by omega) (by omega) (by omega)
  obtain ⟨X, HXK⟩ : ∃ X, Hid (Met.of K DD = X) := ⟨_, Lib.hid rfl⟩
  obtain ⟨Y, HYE⟩ : ∃ Y, Hid (Met.of N D = Y) := ⟨_, Lib.hid rfl⟩
  rw [HXK.out] at iK j0 j1
  rw [HYE.out] at iE iW j0 j1
  obtain ⟨u0, u1⟩ := X
  obtain ⟨y0, y1⟩ := Y
  obtain ⟨Z, HZL⟩ : ∃ Z, Hid (Met.sb (y0, y1) (u0, u1) = Z) := ⟨_, Lib.hid rfl⟩
  rw [HZL.out] at j1
  obtain ⟨l0, l1⟩ := Z
  have HJ0 := Lib.hid j0
  have HJ1 := Lib.hid j1
  have HIK := Lib.hid iK
  have HIE := Lib.hid iE
  have HIW := Lib.hid iW
  have HPL : Hid (Met.of (mkK N at_ of_) (D * mkS of_) = (u0, u1)) := Lib.hid (by rw [HK.out, HS.out, HDD.out]; exact HXK.out)
  clear j0 j1 iK iE iW
  have hgR := guardR
  have heR := eql_rt
  have hnR := neq_rt
  have hsR := eqR_self
  have hB0 : Below w.heap.size w w := Below.refl _ _
  go_enter Try.func7, Try.ntmps7
  go_wp2_with fail
  refine (awake_any _).mono ?_
  rintro e w1 ⟨rfl, hb1⟩
  have hs1 : Below w.heap.size w w1 := Below.trans (by repeat (first | exact Below.refl _ _ | refine Below.alloc ?_ (by simp <;> omega) _)) (hb1.mono (by simp <;> omega))
  have c_x_0 : w1.cell? ⟨w.heap.size, 0, none⟩ = some (.int .i64 a) := (hb1.cell (by simp <;> omega)).trans (by go_simp)
  have c_x_1 : w1.cell? ⟨w.heap.size, 1, none⟩ = some (.int .i64 b) := (hb1.cell (by simp <;> omega)).trans (by go_simp)
  have c_x_2 : w1.cell? ⟨w.heap.size, 2, none⟩ = some (.slice px gs.length cx) := (hb1.cell (by simp <;> omega)).trans (by go_simp)
  have z_x := World.block_lt_of_cell? _ _ c_x_0
  have hB1 := below_two hB0 hs1
  clear hB0 hs1 hb1
  go_wp2_with fail
  have hs2 : Below w1.heap.size w1 w1 := by repeat (first | exact Below.refl _ _ | refine Below.alloc ?_ (by simp <;> omega) _)
  replace c_x_0 := cell_later hs2 c_x_0
  replace c_x_1 := cell_later hs2 c_x_1
  replace c_x_2 := cell_later hs2 c_x_2
  have hB2 := below_two hB1 hs2
  clear hB1 hs2
  have y2_x := z_x
  generalize w1 = w2 at *
  clear z_x
  have z_x := World.block_lt_of_cell? _ _ c_x_0
  go_wp2_with fail
  refine (meterL HN.out HD.out _ gs _ (HX.out.later hB2) ia ib HGS.out gr).mono ?_
  rintro e w3 ⟨⟨um, rfl, lm, him, hrm, hzm⟩, hb3⟩
  have hs3 := hb3
  replace c_x_0 := cell_later hs3 c_x_0
  replace c_x_1 := cell_later hs3 c_x_1
  replace c_x_2 := cell_later hs3 c_x_2
  clear z_x
  have z_x := World.block_lt_of_cell? _ _ c_x_0
  have hB3 := below_two hB2 hs3
  clear hB2 hs3
  obtain ⟨pm, cm, rfl, hlm, hcm⟩ := him
  have HIm : Hid (Ints _ (.slice pm lm.length cm) lm) := Lib.hid ⟨pm, cm, rfl, hlm, hcm⟩
  have HRm := Lib.hid hrm
  clear hcm hrm
  go_wp2_with fail
  have hs4 : Below w3.heap.size w3 (w3.alloc (.cells #[.int .i64 N, .int .i64 D, .slice pm lm.length cm] 24)) := by repeat (first | exact Below.refl _ _ | refine Below.alloc ?_ (by simp <;> omega) _)
  clear c_x_0
  clear c_x_1
  clear c_x_2
  replace HIm := Lib.hid (HIm.out.later hs4)
  have c_m_0 : (w3.alloc (.cells #[.int .i64 N, .int .i64 D, .slice pm lm.length cm] 24)).cell? ⟨w3.heap.size, 0, none⟩ = some (.int .i64 N) := by go_simp
  have c_m_1 : (w3.alloc (.cells #[.int .i64 N, .int .i64 D, .slice pm lm.length cm] 24)).cell? ⟨w3.heap.size, 1, none⟩ = some (.int .i64 D) := by go_simp
  have c_m_2 : (w3.alloc (.cells #[.int .i64 N, .int .i64 D, .slice pm lm.length cm] 24)).cell? ⟨w3.heap.size, 2, none⟩ = some (.slice pm lm.length cm) := by go_simp
  have hB4 := below_two hB3 hs4
  clear hB3 hs4
  have y4_x := z_x
  generalize (w3.alloc (.cells #[.int .i64 N, .int .i64 D, .slice pm lm.length cm] 24)) = w4 at *
  have z_m := World.block_lt_of_cell? _ _ c_m_0
  clear z_x
  have HRR := Lib.hid (Met.isRight HRm.out)
  obtain ⟨nb, HNB⟩ : ∃ nb, Hid ((Met.bt N D lm).length = nb) := ⟨_, Lib.hid rfl⟩
  have HNBB : Hid ((Met.grp N D lm).length = nb) := Lib.hid (by rw [← HNB.out, Met.bt, Met.bts_length])
  have hc0 := Met.ct_of HRR.out (S := 1) (by omega) (by omega) (p := (0, 1)) (l := (y0, y1)) (K := 0) (E := N) ⟨⟨by decide, by decide, by decide, by decide, by decide⟩, by omega, by simp⟩ (by rw [Int.mul_one, Int.sub_zero]; exact HIW.out) (by omega) (by omega) (by omega)
  have HC0 := Lib.hid hc0
  have HC0L : Hid (((Met.dif (Met.zs 0 N (Met.zb 1 (Met.grp N D lm)))).map (fun x => Met.of x (D * 1))).length = nb) := Lib.hid (by rw [List.length_map, whole_len HRR.out, HNBB.out])
  clear hc0
  have hct := Met.ct_of HRR.out s1 s12 (p := (u0, u1)) (l := (l0, l1)) (K := K) (E := NS) (by rw [HDD.out]; exact HIK.out) (by rw [HDD.out]; exact HJ1.out) k0 k1 (by rw [HNS.out]; exact Int.le_refl _)
  obtain ⟨nl, hzs⟩ := Met.zs_is (K := K) (E := NS) k1 (Met.zb_up HRR.out s1)
  rw [HDD.out] at hct
  generalize Met.zs K NS (Met.zb S (Met.grp N D lm)) = z at *
  have HZS := Lib.hid hzs
  have HCT := Lib.hid hct
  have hnl := hzs.pos
  have HLL : Hid (((Met.dif z).map (fun x => Met.of x DD)).length = nl) := Lib.hid (by rw [List.length_map, Met.dif_length, hzs.len]; omega)
  clear hzs hct
  go_wp2_with fail
  refine (mlength_right HIm.out HRm.out HYE.out).mono ?_
  rintro e w5 ⟨rfl, hb5⟩
  have hs5 := hb5
  replace HIm := Lib.hid (HIm.out.later hs5)
  replace c_m_0 := cell_later hs5 c_m_0
  replace c_m_1 := cell_later hs5 c_m_1
  replace c_m_2 := cell_later hs5 c_m_2
  clear z_m
  have z_m := World.block_lt_of_cell? _ _ c_m_0
  have hB5 := below_two hB4 hs5
  clear hB4 hs5
  go_wp2_with fail
  have hs6 : Below w5.heap.size w5 (w5.alloc (.cells #[.int .i64 y0, .int .i64 y1] 26)) := by repeat (first | exact Below.refl _ _ | refine Below.alloc ?_ (by simp <;> omega) _)
  replace HIm := Lib.hid (HIm.out.later hs6)
  replace c_m_0 := cell_later hs6 c_m_0
  replace c_m_1 := cell_later hs6 c_m_1
  replace c_m_2 := cell_later hs6 c_m_2
  have c_h_0 : (w5.alloc (.cells #[.int .i64 y0, .int .i64 y1] 26)).cell? ⟨w5.heap.size, 0, none⟩ = some (.int .i64 y0) := by go_simp
  have c_h_1 : (w5.alloc (.cells #[.int .i64 y0, .int .i64 y1] 26)).cell? ⟨w5.heap.size, 1, none⟩ = some (.int .i64 y1) := by go_simp
  have hB6 := below_two hB5 hs6
  clear hB5 hs6
  have y6_m := z_m
  generalize (w5.alloc (.cells #[.int .i64 y0, .int .i64 y1] 26)) = w6 at *
  have z_h := World.block_lt_of_cell? _ _ c_h_0
  clear z_m
  have z_m := World.block_lt_of_cell? _ _ c_m_0
  go_wp2_with fail
  refine (beats_right HIm.out HRm.out rfl).mono ?_
  rintro e w7 ⟨⟨ub, rfl, hPb⟩, hb7⟩
  have hs7 := hb7
  replace HIm := Lib.hid (HIm.out.later hs7)
  replace c_m_0 := cell_later hs7 c_m_0
  replace c_m_1 := cell_later hs7 c_m_1
  replace c_m_2 := cell_later hs7 c_m_2
  replace c_h_0 := cell_later hs7 c_h_0
  replace c_h_1 := cell_later hs7 c_h_1
  clear z_h
  have z_h := World.block_lt_of_cell? _ _ c_h_0
  clear z_m
  have z_m := World.block_lt_of_cell? _ _ c_m_0
  have hB7 := below_two hB6 hs7
  clear hB6 hs7
  obtain ⟨pb, cb, rfl, hpl, hpc⟩ := hPb
  clear hpl hpc
  rw [HNB.out]
  go_wp2_with fail
  refine (cut_is HIm.out HC0.out).mono ?_
  rintro e w8 ⟨⟨uc, rfl, hPc⟩, hb8⟩
  have hs8 := hb8
  replace HIm := Lib.hid (HIm.out.later hs8)
  replace c_m_0 := cell_later hs8 c_m_0
  replace c_m_1 := cell_later hs8 c_m_1
  replace c_m_2 := cell_later hs8 c_m_2
  replace c_h_0 := cell_later hs8 c_h_0
  replace c_h_1 := cell_later hs8 c_h_1
  clear z_h
  have z_h := World.block_lt_of_cell? _ _ c_h_0
  clear z_m
  have z_m := World.block_lt_of_cell? _ _ c_m_0
  have hB8 := below_two hB7 hs8
  clear hB7 hs8
  obtain ⟨pc, cc, rfl, hpl, hpc⟩ := hPc
  clear hpl hpc
  rw [HC0L.out]
  have hbb : ((nb : Int) != (nb : Int)) = false := by simp
  go_wp2_with fail
  refine (placeL HIm.out HRm.out iat iof HPL.out).mono ?_
  rintro e w9 ⟨rfl, hb9⟩
  have hs9 := hb9
  replace HIm := Lib.hid (HIm.out.later hs9)
  replace c_m_0 := cell_later hs9 c_m_0
  replace c_m_1 := cell_later hs9 c_m_1
  replace c_m_2 := cell_later hs9 c_m_2
  replace c_h_0 := cell_later hs9 c_h_0
  replace c_h_1 := cell_later hs9 c_h_1
  clear z_h
  have z_h := World.block_lt_of_cell? _ _ c_h_0
  clear z_m
  have z_m := World.block_lt_of_cell? _ _ c_m_0
  have hB9 := below_two hB8 hs9
  clear hB8 hs9
  clear hbb
  have HBX : Hid (Box2 (w9.alloc (.cells #[.int .i64 u0, .int .i64 u1] 26)) w9.heap.size (Met.of (zat z 0) DD)) := Lib.hid (by
    have e : zat z 0 = K := by unfold zat; rw [HZS.out.first]; rfl
    rw [e, HXK.out]
    exact World.alloc_heap_new _ _)
  have hBq := hB9
  have HIq := HIm
  have cq0 := c_m_0
  have cq1 := c_m_1
  have cq2 := c_m_2
  have cqh0 := c_h_0
  have cqh1 := c_h_1
  have HBQ := Lib.hid (And.intro hBq (And.intro cq0 (And.intro cq1 (And.intro cq2 (And.intro cqh0 cqh1)))))
  clear hBq cq0 cq1 cq2 cqh0 cqh1
  have HBE : Hid (BQ w9 (w9.alloc (.cells #[.int .i64 u0, .int .i64 u1] 26))) := Lib.hid ⟨(Below.refl _ _).alloc (Nat.le_refl _) _⟩
  go_wp2_with fail
  have hs10 : Below w9.heap.size w9 (w9.alloc (.cells #[.int .i64 u0, .int .i64 u1] 26)) := by repeat (first | exact Below.refl _ _ | refine Below.alloc ?_ (by simp <;> omega) _)
  replace HIm := Lib.hid (HIm.out.later hs10)
  replace c_m_0 := cell_later hs10 c_m_0
  replace c_m_1 := cell_later hs10 c_m_1
  replace c_m_2 := cell_later hs10 c_m_2
  replace c_h_0 := cell_later hs10 c_h_0
  replace c_h_1 := cell_later hs10 c_h_1
  have c_f_0 : (w9.alloc (.cells #[.int .i64 u0, .int .i64 u1] 26)).cell? ⟨w9.heap.size, 0, none⟩ = some (.int .i64 u0) := by go_simp
  have c_f_1 : (w9.alloc (.cells #[.int .i64 u0, .int .i64 u1] 26)).cell? ⟨w9.heap.size, 1, none⟩ = some (.int .i64 u1) := by go_simp
  have hB10 := below_two hB9 hs10
  clear hB9 hs10
  have y10_h := z_h
  have y10_m := z_m
  generalize (w9.alloc (.cells #[.int .i64 u0, .int .i64 u1] 26)) = w10 at *
  have z_f := World.block_lt_of_cell? _ _ c_f_0
  clear z_h
  have z_h := World.block_lt_of_cell? _ _ c_h_0
  clear z_m
  have z_m := World.block_lt_of_cell? _ _ c_m_0
  go_wp2_with fail
  refine (subL HZL.out HJ0.out _).mono ?_
  rintro e w11 ⟨rfl, hb11⟩
  have hs11 := hb11
  replace HIm := Lib.hid (HIm.out.later hs11)
  replace HBX := Lib.hid (HBX.out.later hs11)
  replace HBE := Lib.hid (HBE.out.later hs11)
  replace c_m_0 := cell_later hs11 c_m_0
  replace c_m_1 := cell_later hs11 c_m_1
  replace c_m_2 := cell_later hs11 c_m_2
  replace c_h_0 := cell_later hs11 c_h_0
  replace c_h_1 := cell_later hs11 c_h_1
  replace c_f_0 := cell_later hs11 c_f_0
  replace c_f_1 := cell_later hs11 c_f_1
  clear z_f
  have z_f := World.block_lt_of_cell? _ _ c_f_0
  clear z_h
  have z_h := World.block_lt_of_cell? _ _ c_h_0
  clear z_m
  have z_m := World.block_lt_of_cell? _ _ c_m_0
  have hB11 := below_two hB10 hs11
  clear hB10 hs11
  go_wp2_with fail
  have hs12 : Below w11.heap.size w11 (w11.alloc (.cells #[.int .i64 l0, .int .i64 l1] 26)) := by repeat (first | exact Below.refl _ _ | refine Below.alloc ?_ (by simp <;> omega) _)
  replace HIm := Lib.hid (HIm.out.later hs12)
  replace HBX := Lib.hid (HBX.out.later hs12)
  replace HBE := Lib.hid (HBE.out.later hs12)
  replace c_m_0 := cell_later hs12 c_m_0
  replace c_m_1 := cell_later hs12 c_m_1
  replace c_m_2 := cell_later hs12 c_m_2
  replace c_h_0 := cell_later hs12 c_h_0
  replace c_h_1 := cell_later hs12 c_h_1
  replace c_f_0 := cell_later hs12 c_f_0
  replace c_f_1 := cell_later hs12 c_f_1
  have c_r_0 : (w11.alloc (.cells #[.int .i64 l0, .int .i64 l1] 26)).cell? ⟨w11.heap.size, 0, none⟩ = some (.int .i64 l0) := by go_simp
  have c_r_1 : (w11.alloc (.cells #[.int .i64 l0, .int .i64 l1] 26)).cell? ⟨w11.heap.size, 1, none⟩ = some (.int .i64 l1) := by go_simp
  have hB12 := below_two hB11 hs12
  clear hB11 hs12
  have y12_f := z_f
  have y12_h := z_h
  have y12_m := z_m
  generalize (w11.alloc (.cells #[.int .i64 l0, .int .i64 l1] 26)) = w12 at *
  clear z_f
  have z_f := World.block_lt_of_cell? _ _ c_f_0
  clear z_h
  have z_h := World.block_lt_of_cell? _ _ c_h_0
  clear z_m
  have z_m := World.block_lt_of_cell? _ _ c_m_0
  have z_r := World.block_lt_of_cell? _ _ c_r_0
  go_wp2_with fail
  refine (cut_is HIm.out HCT.out).mono ?_
  rintro e w13 ⟨⟨ul, rfl, hPl⟩, hb13⟩
  have hs13 := hb13
  replace HIm := Lib.hid (HIm.out.later hs13)
  replace HBX := Lib.hid (HBX.out.later hs13)
  replace HBE := Lib.hid (HBE.out.later hs13)
  replace c_m_0 := cell_later hs13 c_m_0
  replace c_m_1 := cell_later hs13 c_m_1
  replace c_m_2 := cell_later hs13 c_m_2
  replace c_h_0 := cell_later hs13 c_h_0
  replace c_h_1 := cell_later hs13 c_h_1
  replace c_f_0 := cell_later hs13 c_f_0
  replace c_f_1 := cell_later hs13 c_f_1
  replace c_r_0 := cell_later hs13 c_r_0
  replace c_r_1 := cell_later hs13 c_r_1
  clear z_f
  have z_f := World.block_lt_of_cell? _ _ c_f_0
  clear z_h
  have z_h := World.block_lt_of_cell? _ _ c_h_0
  clear z_m
  have z_m := World.block_lt_of_cell? _ _ c_m_0
  clear z_r
  have z_r := World.block_lt_of_cell? _ _ c_r_0
  have hB13 := below_two hB12 hs13
  clear hB12 hs13
  obtain ⟨pl, cl, rfl, hpl, hpc⟩ := hPl
  obtain ⟨bl, ol, rfl⟩ : ∃ b o, pl = some ⟨b, o, none⟩ := by
    obtain ⟨b, o, e, _⟩ := hpc 0 (Met.of (zat z 1 - zat z 0) DD) (by rw [List.getElem?_map, dif_some HZS.out (by omega)]; rfl)
    exact ⟨b, o, e⟩
  have HROW : Hid (∀ W : World, (∀ (i : Nat) (x : Met.Pr), ((Met.dif z).map (fun x => Met.of x DD))[i]? = some x → ∃ b o, (some ⟨bl, ol, none⟩ : Option Addr) = some ⟨b, o, none⟩ ∧ W.cell? ⟨b, o + i * 2, none⟩ = some (.int .i64 x.1) ∧ W.cell? ⟨b, o + i * 2 + 1, none⟩ = some (.int .i64 x.2)) → ∀ (i : Nat), 0 ≤ i → i < nl → W.cell? ⟨bl, ol + i * 2, none⟩ = some (.int .i64 (Met.of (zat z (i + 1) - zat z i) DD).1) ∧ W.cell? ⟨bl, ol + i * 2 + 1, none⟩ = some (.int .i64 (Met.of (zat z (i + 1) - zat z i) DD).2)) := Lib.hid (fun W h i _ hi => by
    obtain ⟨b', o', e, h1, h2⟩ := h i _ (by rw [List.getElem?_map, dif_some HZS.out hi]; rfl)
    cases e
    exact ⟨h1, h2⟩)
  have HRW := Lib.hid (HROW.out _ hpc)
  have hnl2 : nl ≤ 1000000 := by rw [← HLL.out]; exact hpl
  clear hpl hpc HROW
  rw [HLL.out]
  have ybl : True := trivial
  clear ybl
  go_wp2_with fail
  go_loopw [20] (fun i wr => AgRel DD z nl bl ol w9 i wr) (fun i _ => nl - (intOf i).toNat)
  case atStart => exact ⟨0, by omega, rfl, HBX, HBE.out.b, HRW⟩
  case round =>
    clear HBX HBE HRW
    obtain ⟨k, hk, rfl, HBX, hBr, HRW⟩ := hrel
    have c0 := cell_later hBr HBQ.out.2.1
    have c1 := cell_later hBr HBQ.out.2.2.1
    have c2 := cell_later hBr HBQ.out.2.2.2.1
    have e0 := cell_later hBr HBQ.out.2.2.2.2.1
    have e1 := cell_later hBr HBQ.out.2.2.2.2.2
    have HIr := Lib.hid (HIq.out.later hBr)
    have b0 := HBX.out.c0
    have b1 := HBX.out.c1
    have zb := HBX.out.lt
    have zm := World.block_lt_of_cell? _ _ c0
    have zh := World.block_lt_of_cell? _ _ e0
    simp only at zm zh
    clear c_m_0 c_m_1 c_m_2 c_h_0 c_h_1 c_f_0 c_f_1 c_r_0 c_r_1 z_f z_h z_m z_r
    by_cases hlt : k < nl
    · have hlt' : (k : Int) < (nl : Int) := by omega
      have hz1 := zat_some HZS.out (i := k) (by omega)
      have hz2 := zat_some HZS.out (i := k + 1) (by omega)
      have hw1 := HZS.out.within k _ hz1
      have hw2 := HZS.out.within (k + 1) _ hz2
      have hup2 := HZS.out.up k _ _ hz1 hz2
      have hnone := HZS.out.none k _ _ hz1 hz2
      obtain ⟨r0, r1⟩ := HRW.out k (Nat.le_refl _) hlt
      obtain ⟨A, HA⟩ : ∃ A, Hid (zat z k = A) := ⟨_, Lib.hid rfl⟩
      obtain ⟨B, HB⟩ : ∃ B, Hid (zat z (k + 1) = B) := ⟨_, Lib.hid rfl⟩
      rw [HA.out] at hw1 hup2 hnone r0 r1 b0 b1
      rw [HB.out] at hw2 hup2 hnone r0 r1
      have iA : Met.Is (Met.of A DD) A DD := Met.is_of ds1 (by omega) (by omega) (by omega)
      have iB : Met.Is (Met.of B DD) B DD := Met.is_of ds1 (by omega) (by omega) (by omega)
      have iC : Met.Is (Met.of (B - A) DD) (B - A) DD := Met.is_of ds1 (by omega) (by omega) (by omega)
      obtain ⟨f0, f1⟩ := iA.ad iC (by omega) (by omega) (by omega)
      rw [show A + (B - A) = B by omega] at f1
      have f2 := f1.unique iB
      have hc1 := Met.ct_of HRR.out s1 s12 (p := Met.of A DD) (l := Met.of (B - A) DD) (K := A) (E := B) (by rw [HDD.out]; exact iA) (by rw [HDD.out]; exact iC) (by omega) hup2 (by rw [HNS.out]; omega)
      rw [zs_near hnone, HDD.out, List.map_cons, List.map_nil] at hc1
      obtain ⟨PA, HPA⟩ : ∃ P, Hid (Met.of A DD = P) := ⟨_, Lib.hid rfl⟩
      obtain ⟨PB, HPB2⟩ : ∃ P, Hid (Met.of B DD = P) := ⟨_, Lib.hid rfl⟩
      obtain ⟨PC, HPC⟩ : ∃ P, Hid (Met.of (B - A) DD = P) := ⟨_, Lib.hid rfl⟩
      rw [HPA.out] at b0 b1 f0 f2 hc1
      rw [HPB2.out] at f2
      rw [HPC.out] at r0 r1 f0 f2 hc1
      obtain ⟨a0, a1⟩ := PA
      obtain ⟨n0, n1'⟩ := PB
      obtain ⟨g0, g1⟩ := PC
      have HF0 := Lib.hid f0
      have HF2 := Lib.hid f2
      have HC1 := Lib.hid hc1
      dsimp only at b0 b1 r0 r1
      have zr := World.block_lt_of_cell? _ _ r0
      simp only at zr
      clear hz1 hz2 hw1 hw2 hnone iC f0 f1 f2 iA iB hc1 e0 e1 zh
      go_upto_region 16 with fail
      have hBr0 : Below wr.heap.size wr wr := Below.refl _ _
      have HId := Lib.hid (HIr.out.later (Below.refl wr.heap.size wr).drew)
      go_region_held3 (fun w' => w'.cell? ⟨w3.heap.size, 0, none⟩ = some (.int .i64 N) ∧ w'.cell? ⟨w3.heap.size, 1, none⟩ = some (.int .i64 D) ∧ w'.cell? ⟨w3.heap.size, 2, none⟩ = some (.slice pm lm.length cm) ∧ w'.cell? ⟨w9.heap.size, 0, none⟩ = some (.int .i64 a0) ∧ w'.cell? ⟨w9.heap.size, 1, none⟩ = some (.int .i64 a1) ∧ w'.cell? ⟨bl, ol + k * 2, none⟩ = some (.int .i64 g0) ∧ w'.cell? ⟨bl, ol + k * 2 + 1, none⟩ = some (.int .i64 g1) ∧ Below wr.heap.size wr w')
        (((try go_split_ands); refine ⟨?_, ?_, ?_, ?_, ?_, ?_, ?_, ?_⟩ <;> first | with_reducible assumption | (with_reducible refine cell_later hq ?_; with_reducible assumption) | (with_reducible refine below_two ?_ hq; with_reducible assumption) | with_reducible exact cell_drew c0 | with_reducible exact cell_drew c1 | with_reducible exact cell_drew c2 | with_reducible exact cell_drew b0 | with_reducible exact cell_drew b1 | with_reducible exact cell_drew r0 | with_reducible exact cell_drew r1 | with_reducible exact hBr0.drew))
        (first | (go_at_call 24; with_reducible refine (cut_is HId.out HC1.out).mono ?_; rintro ed u5 ⟨⟨uo, rfl, hPo⟩, hq⟩; obtain ⟨bo, oo, co, rfl, t0, t1⟩ := prs_one hPo; clear hPo))
      rename_i hS
      clear c0 c1 c2 b0 b1 r0 r1
      obtain ⟨c0, c1, c2, b0, b1, r0, r1, hBx⟩ := hS
      replace HBX := Lib.hid (HBX.out.later hBx)
      replace HRW := Lib.hid (fun i h1 h2 => (⟨cell_later hBx (HRW.out i h1 h2).1, cell_later hBx (HRW.out i h1 h2).2⟩ : _ ∧ _))
      replace hBr := below_two hBr hBx
      have hone : ((1 : Int) != 1) = false := by decide
      clear c0 c1 c2 zb zm zr hBx
      have zt := World.block_lt_of_cell? _ _ t0
      have zr := World.block_lt_of_cell? _ _ r0
      have zb := HBX.out.lt
      simp only at zt zr
      go_wp2_with fail
      have g_t0 := fun dd os => cell_regrown t0 dd os
      have g_t1 := fun dd os => cell_regrown t1 dd os
      have g_b0 := fun dd os => cell_regrown b0 dd os
      have g_b1 := fun dd os => cell_regrown b1 dd os
      have g_r0 := fun dd os => cell_regrown r0 dd os
      have g_r1 := fun dd os => cell_regrown r1 dd os
      refine wp_region_quiet_below (by kernel_rfl) (by kernel_rfl) ?_
      repeat (go_big_quiet_step (first | fail))
      refine wpQuiet_nil ?_
      intro _ hw'
      obtain ⟨⟨dq, osq⟩, hw''⟩ := hw'
      subst hw''
      replace t0 := g_t0 dq osq
      clear g_t0
      replace t1 := g_t1 dq osq
      clear g_t1
      replace b0 := g_b0 dq osq
      clear g_b0
      replace b1 := g_b1 dq osq
      clear g_b1
      replace r0 := g_r0 dq osq
      clear g_r0
      replace r1 := g_r1 dq osq
      clear g_r1
      have hb_wz := below_regrown u5 dq osq
      generalize Go.Sort.grow (redrawn u5 dq) osq = wz at *
      replace HBX := Lib.hid (HBX.out.later hb_wz)
      replace HRW := Lib.hid (fun i h1 h2 => (⟨cell_later hb_wz (HRW.out i h1 h2).1, cell_later hb_wz (HRW.out i h1 h2).2⟩ : _ ∧ _))
      replace hBr := below_two hBr hb_wz
      clear hb_wz t0 t1 zt zr zb
      have zr := World.block_lt_of_cell? _ _ r0
      have zb := HBX.out.lt
      simp only at zr
      go_upto_region 19 with fail
      have hBr0 : Below wz.heap.size wz wz := Below.refl _ _
      go_cut [23, 24] (fun p e wx => AtR n0 n1' wz p wx ∧ e = .int .i64 0)
      case first =>
        have RA : Hid (∀ u, Below (wz.alloc (.cells #[.int .i64 0, .int .i64 0] 26)).drew.heap.size (wz.alloc (.cells #[.int .i64 0, .int .i64 0] 26)).drew u → u.cell? ⟨wz.heap.size, 0, none⟩ = some (.int .i64 0) ∧ u.cell? ⟨wz.heap.size, 1, none⟩ = some (.int .i64 0) ∧ u.frozen? ⟨wz.heap.size, 0, none⟩ = false ∧ u.frozen? ⟨wz.heap.size, 1, none⟩ = false ∧ Below wz.heap.size wz u) := Lib.hid (fun u hq => by
          have e0 : (wz.alloc (.cells #[.int .i64 0, .int .i64 0] 26)).drew.cell? ⟨wz.heap.size, 0, none⟩ = some (.int .i64 0) := cell_drew (by go_simp)
          have e1 : (wz.alloc (.cells #[.int .i64 0, .int .i64 0] 26)).drew.cell? ⟨wz.heap.size, 1, none⟩ = some (.int .i64 0) := cell_drew (by go_simp)
          exact ⟨cell_later hq e0, cell_later hq e1, frozen_later hq e0 (frozen_drew (by go_simp)), frozen_later hq e1 (frozen_drew (by go_simp)), below_two (alloc_below hBr0).drew hq⟩)
        have RB : Hid (∀ u, Below wz.drew.heap.size wz.drew u → u.cell? ⟨w9.heap.size, 0, none⟩ = some (.int .i64 a0) ∧ u.cell? ⟨w9.heap.size, 1, none⟩ = some (.int .i64 a1) ∧ u.cell? ⟨bl, ol + k * 2, none⟩ = some (.int .i64 g0) ∧ u.cell? ⟨bl, ol + k * 2 + 1, none⟩ = some (.int .i64 g1) ∧ Below wz.heap.size wz u) := Lib.hid (fun u hq => ⟨cell_later hq (cell_drew b0), cell_later hq (cell_drew b1), cell_later hq (cell_drew r0), cell_later hq (cell_drew r1), below_two hBr0.drew hq⟩)
        go_region_held3 (fun w' => w'.cell? ⟨w9.heap.size, 0, none⟩ = some (.int .i64 a0) ∧ w'.cell? ⟨w9.heap.size, 1, none⟩ = some (.int .i64 a1) ∧ w'.cell? ⟨bl, ol + k * 2, none⟩ = some (.int .i64 g0) ∧ w'.cell? ⟨bl, ol + k * 2 + 1, none⟩ = some (.int .i64 g1) ∧ Below wz.heap.size wz w')
          (((try go_split_ands); refine ⟨?_, ?_, ?_, ?_, ?_⟩ <;> first | with_reducible assumption | (with_reducible refine cell_later hq ?_; with_reducible assumption) | (with_reducible refine below_two ?_ hq; with_reducible assumption) | (with_reducible refine alloc_cell ?_; with_reducible assumption) | (with_reducible refine alloc_below ?_; with_reducible assumption) | (with_reducible refine set_far ?_ (set_far ?_ ?_); omega; omega; with_reducible assumption) | (with_reducible refine put2_below ?_ ?_; with_reducible assumption; omega) | with_reducible exact cell_drew b0 | with_reducible exact cell_drew b1 | with_reducible exact cell_drew r0 | with_reducible exact cell_drew r1 | with_reducible exact hBr0.drew | with_reducible exact cell_drew (alloc_cell b0) | with_reducible exact cell_drew (alloc_cell b1) | with_reducible exact cell_drew (alloc_cell r0) | with_reducible exact cell_drew (alloc_cell r1) | with_reducible exact (alloc_below hBr0).drew))
          (first
            | (go_at_call 31; first
                | (with_reducible refine (addL HF2.out HF0.out wz.drew).mono ?_; rintro ed u5 ⟨rfl, hq⟩; obtain ⟨n_b0, n_b1, n_r0, n_r1, hb5⟩ := RB.out _ hq)
                | (with_reducible refine (addL HF2.out HF0.out (wz.alloc (.cells #[.int .i64 0, .int .i64 0] 26)).drew).mono ?_; rintro ed u5 ⟨rfl, hq⟩; obtain ⟨r_0, r_1, f_0, f_1, hb5⟩ := RA.out _ hq)))
        all_goals (first
          | (go_wp2_with fail; go_meet; case rel => exact ⟨⟨_, rfl, (put2_of r_0 r_1).1, (put2_of r_0 r_1).2, put2_below hb5 (by omega)⟩, rfl⟩)
          | (go_wp2_with fail; go_meet; case rel => exact ⟨⟨_, rfl, by go_simp, by go_simp, alloc_below hb5⟩, rfl⟩))
      case rest =>
        obtain ⟨⟨A1, rfl, xc0, xc1, hBx⟩, rfl⟩ := hcut
        have hHX := HBX.out.later hBx
        have HRWc := Lib.hid (fun i (h1 : k ≤ i) (h2 : i < nl) => (⟨cell_later hBx (HRW.out i h1 h2).1, cell_later hBx (HRW.out i h1 h2).2⟩ : _ ∧ _))
        replace hBr := below_two hBr hBx
        have zq := hHX.lt
        have zx := World.block_lt_of_cell? _ _ xc0
        simp only at zx
        have fr0 := hHX.fr (o := 0)
        have fr1 := hHX.fr (o := 1)
        have bb0 := hHX.c0
        have bb1 := hHX.c1
        have HHX := Lib.hid hHX
        clear hHX hBx hBr0 b0 b1 r0 r1 zr zb
        go_wp2
        go_roundw
        case rel =>
          refine ⟨k + 1, by omega, by go_num, Lib.hid (by rw [HB.out, HPB2.out]; exact HHX.out.put n0 n1'), set1_below (set1_below hBr (Nat.le_refl _)) (Nat.le_refl _), Lib.hid (fun i h1 h2 => ?_)⟩
          obtain ⟨v1, v2⟩ := HRWc.out i (by omega) h2
          have hne := box2_far HHX.out v1 (by omega)
          exact ⟨set_far hne (set_far hne v1), set_far hne (set_far hne v2)⟩
        case measure => simp [intOf]; omega
    · obtain rfl : k = nl := by omega
      have e : Met.of (zat z k) DD = (y0, y1) := by
        have e3 : zat z k = NS := by unfold zat; rw [HZS.out.last]; rfl
        rw [e3]
        exact (Met.is_of ds1 (by omega) (by omega) (by omega)).unique HIE.out
      rw [e] at b0 b1
      dsimp only at b0 b1
      clear e
      go_wp2
      go_ret
      exact ⟨rfl, below_two HBQ.out.1 hBr⟩
end Go.Proofs.Ytlodhfdikglgoaa
