/-
  MeterParts answers true: the law's walk.
-/
import Derived.Test.YtlodhfdikglgoaaMetS
import Derived.LoopN
import Derived.Deep.DeepCutAuto
import Derived.Deep.RegionHeld3
import Derived.BigQuiet
import Derived.Lib.QuietBelow
import Derived.Deep.RegionLaw
import Derived.OwnWalk
namespace Go.Proofs.Ytlodhfdikglgoaa
open Go.RowKit

theorem sgn_m1 {x : Int} (h : x < 0) : Rat.sgn x = -1 := by
  rcases sgn_cases x with ⟨_, e⟩ | ⟨e, _⟩ | ⟨e, _⟩
  · exact e
  · omega
  · omega
theorem grown1 {W w5 : World} (h : W.grownBy w5 (Value.slice none 0 0).ownBlock) : Below W.heap.size W w5 := (Below.refl _ _).grown h (Nat.le_refl _) (fun k e => by cases e)
theorem grown2 {W w5 w6 : World} {v5 : Value} {e : TypeId} {size n : Nat} {xs : List Value} (h5 : Below W.heap.size W w5) (hown : w5.ownsRow W.heap.size e size v5 n xs) (h6 : w5.grownBy w6 v5.ownBlock) : Below W.heap.size W w6 :=
  h5.grown h6 h5.size (fun k e => (hown.lt k e).1)
theorem below_own {W g X g8 : World} {v7 : Value} {e : TypeId} {size n : Nat} {xs : List Value} (hx : Below g.heap.size g X) (hb : Below W.heap.size W g) (hown : g.ownsRow W.heap.size e size v7 n xs) (h8 : X.grownBy g8 v7.ownBlock) : Below W.heap.size W g8 :=
  (below_two hb hx).grown h8 (below_two hb hx).size (fun k e => (hown.lt k e).1)
theorem own_prs {W : World} {base n : Nat} {e : TypeId} {v : Value} {l : List Met.Pr} {xs : List Value} (h : W.ownsRow base e 2 v n xs) (hn : n = l.length) (hx : xs = rowP l) (hl : l.length ≤ 1000000) : Prs W v l := by
  subst hn hx
  exact prs_of hl h

set_option maxRecDepth 100000 in
set_option maxHeartbeats 40000000 in
theorem meterParts_A (a b : Int) (v : Value) (gs : List Int) (gr : Bool) (k1 k2 k3 of_ : Int) (w : World) (hI : Ints w v gs) (ia : Rat.I64 a) (ib : Rat.I64 b) (hgs : ∀ z ∈ gs, Rat.I64 z) (i1 : Rat.I64 k1) (i2 : Rat.I64 k2) (i3 : Rat.I64 k3) (iof : Rat.I64 of_) (hA : ¬ mkK (mkN a) k1 of_ < mkK (mkN a) k2 of_) : LawHolds 8 #[mt a b v, .bool gr, .agg #[.int .i64 k1, .int .i64 k2, .int .i64 k3], .int .i64 of_] w := by
  unfold LawHolds
  obtain ⟨px, cx, rfl, hlx, hcx⟩ := hI
  have HX : Hid (Ints w (.slice px gs.length cx) gs) := Lib.hid ⟨px, cx, rfl, hlx, hcx⟩
  clear hlx hcx
  have HGS := Lib.hid hgs
  clear hgs
  obtain ⟨N, HN⟩ : ∃ N, Hid (mkN a = N) := ⟨_, Lib.hid rfl⟩
  obtain ⟨D, HD⟩ : ∃ D, Hid (mkD b = D) := ⟨_, Lib.hid rfl⟩
  obtain ⟨S, HS⟩ : ∃ S, Hid (mkS of_ = S) := ⟨_, Lib.hid rfl⟩
  obtain ⟨n1, n32⟩ := mkN_b a
  obtain ⟨d1, d64⟩ := mkD_b b
  obtain ⟨s1, s12⟩ := mkS_b of_
  rw [HN.out] at n1 n32
  rw [HD.out] at d1 d64
  rw [HS.out] at s1 s12
  obtain ⟨ns1, ns2⟩ := mul_b n1 n32 s1 s12
  obtain ⟨ds1, ds2⟩ := mul_b d1 d64 s1 s12
  obtain ⟨DD, HDD⟩ : ∃ DD, Hid (D * S = DD) := ⟨_, Lib.hid rfl⟩
  obtain ⟨NS, HNS⟩ : ∃ NS, Hid (N * S = NS) := ⟨_, Lib.hid rfl⟩
  rw [HNS.out] at ns1 ns2
  rw [HDD.out] at ds1 ds2
  obtain ⟨K1, HK1⟩ : ∃ K, Hid (mkK N k1 of_ = K) := ⟨_, Lib.hid rfl⟩
  obtain ⟨l1, h1⟩ := mkK_b (N := N) (a := k1) (o := of_) n1
  rw [HK1.out] at l1
  rw [HK1.out, HS.out, HNS.out] at h1
  have q1 : Met.Is (Met.of K1 DD) K1 DD := Met.is_of ds1 (by omega) (by omega) (by omega)
  obtain ⟨⟨p1, r1⟩, HP1⟩ : ∃ X, Hid (Met.of K1 DD = X) := ⟨_, Lib.hid rfl⟩
  rw [HP1.out] at q1
  have HPL1 : Hid (Met.of (mkK N k1 of_) (D * mkS of_) = (p1, r1)) := Lib.hid (by rw [HK1.out, HS.out, HDD.out]; exact HP1.out)
  have HQ1 := Lib.hid q1
  obtain ⟨K2, HK2⟩ : ∃ K, Hid (mkK N k2 of_ = K) := ⟨_, Lib.hid rfl⟩
  obtain ⟨l2, h2⟩ := mkK_b (N := N) (a := k2) (o := of_) n1
  rw [HK2.out] at l2
  rw [HK2.out, HS.out, HNS.out] at h2
  have q2 : Met.Is (Met.of K2 DD) K2 DD := Met.is_of ds1 (by omega) (by omega) (by omega)
  obtain ⟨⟨p2, r2⟩, HP2⟩ : ∃ X, Hid (Met.of K2 DD = X) := ⟨_, Lib.hid rfl⟩
  rw [HP2.out] at q2
  have HPL2 : Hid (Met.of (mkK N k2 of_) (D * mkS of_) = (p2, r2)) := Lib.hid (by rw [HK2.out, HS.out, HDD.out]; exact HP2.out)
  have HQ2 := Lib.hid q2
  obtain ⟨K3, HK3⟩ : ∃ K, Hid (mkK N k3 of_ = K) := ⟨_, Lib.hid rfl⟩
  obtain ⟨l3, h3⟩ := mkK_b (N := N) (a := k3) (o := of_) n1
  rw [HK3.out] at l3
  rw [HK3.out, HS.out, HNS.out] at h3
  have q3 : Met.Is (Met.of K3 DD) K3 DD := Met.is_of ds1 (by omega) (by omega) (by omega)
  obtain ⟨⟨p3, r3⟩, HP3⟩ : ∃ X, Hid (Met.of K3 DD = X) := ⟨_, Lib.hid rfl⟩
  rw [HP3.out] at q3
  have HPL3 : Hid (Met.of (mkK N k3 of_) (D * mkS of_) = (p3, r3)) := Lib.hid (by rw [HK3.out, HS.out, HDD.out]; exact HP3.out)
  have HQ3 := Lib.hid q3
  rw [HN.out, HK1.out, HK2.out] at hA
  obtain ⟨m1, HM1⟩ : ∃ m, Hid (Met.cm (p1, r1) (p2, r2) = m) := ⟨_, Lib.hid rfl⟩
  have hge : 0 ≤ m1 := by rw [← HM1.out, q1.cm q2, Met.sgn_ge]; omega
  clear q1 q2 q3
  have hgR := guardR
  have heR := eql_rt
  have hnR := neq_rt
  have hsR := eqR_self
  have hB0 : Below w.heap.size w w := Below.refl _ _
  go_enter Try.func8, Try.ntmps8
  go_wp2_with fail
  refine (awake_any _).mono ?_
  rintro e w1 ⟨rfl, hb1⟩
  have hs1 : Below w.heap.size w w1 := Below.trans (by repeat (first | exact Below.refl _ _ | refine Below.alloc ?_ (by simp <;> omega) _)) (hb1.mono (by simp <;> omega))
  have c_x_0 : w1.cell? ⟨w.heap.size, 0, none⟩ = some (.int .i64 a) := (hb1.cell (by simp <;> omega)).trans (by go_simp)
  have c_x_1 : w1.cell? ⟨w.heap.size, 1, none⟩ = some (.int .i64 b) := (hb1.cell (by simp <;> omega)).trans (by go_simp)
  have c_x_2 : w1.cell? ⟨w.heap.size, 2, none⟩ = some (.slice px gs.length cx) := (hb1.cell (by simp <;> omega)).trans (by go_simp)
  have c_a_0 : w1.cell? ⟨w.heap.size + 1, 0, none⟩ = some (.int .i64 k1) := (hb1.cell (by simp <;> omega)).trans (by go_simp)
  have c_a_1 : w1.cell? ⟨w.heap.size + 1, 1, none⟩ = some (.int .i64 k2) := (hb1.cell (by simp <;> omega)).trans (by go_simp)
  have c_a_2 : w1.cell? ⟨w.heap.size + 1, 2, none⟩ = some (.int .i64 k3) := (hb1.cell (by simp <;> omega)).trans (by go_simp)
  have z_a := World.block_lt_of_cell? _ _ c_a_0
  have z_x := World.block_lt_of_cell? _ _ c_x_0
  have hB1 := below_two hB0 hs1
  clear hB0 hs1 hb1
  go_wp2_with fail
  have hs2 : Below w1.heap.size w1 w1 := by repeat (first | exact Below.refl _ _ | refine Below.alloc ?_ (by simp <;> omega) _)
  replace c_x_0 := cell_later hs2 c_x_0
  replace c_x_1 := cell_later hs2 c_x_1
  replace c_x_2 := cell_later hs2 c_x_2
  replace c_a_0 := cell_later hs2 c_a_0
  replace c_a_1 := cell_later hs2 c_a_1
  replace c_a_2 := cell_later hs2 c_a_2
  have hB2 := below_two hB1 hs2
  clear hB1 hs2
  have y2_a := z_a
  have y2_x := z_x
  generalize w1 = w2 at *
  clear z_a
  have z_a := World.block_lt_of_cell? _ _ c_a_0
  clear z_x
  have z_x := World.block_lt_of_cell? _ _ c_x_0
  go_wp2_with fail
  refine (meterL HN.out HD.out _ gs _ (HX.out.later hB2) ia ib HGS.out gr).mono ?_
  rintro e w3 ⟨⟨um, rfl, lm, him, hrm, hzm⟩, hb3⟩
  have hs3 := hb3
  replace c_x_0 := cell_later hs3 c_x_0
  replace c_x_1 := cell_later hs3 c_x_1
  replace c_x_2 := cell_later hs3 c_x_2
  replace c_a_0 := cell_later hs3 c_a_0
  replace c_a_1 := cell_later hs3 c_a_1
  replace c_a_2 := cell_later hs3 c_a_2
  clear z_a
  have z_a := World.block_lt_of_cell? _ _ c_a_0
  clear z_x
  have z_x := World.block_lt_of_cell? _ _ c_x_0
  have hB3 := below_two hB2 hs3
  clear hB2 hs3
  obtain ⟨pm, cm, rfl, hlm, hcm⟩ := him
  have HIm : Hid (Ints _ (.slice pm lm.length cm) lm) := Lib.hid ⟨pm, cm, rfl, hlm, hcm⟩
  have HRm := Lib.hid hrm
  clear hcm hrm
  go_wp2_with fail
  have hs4 : Below w3.heap.size w3 (w3.alloc (.cells #[.int .i64 N, .int .i64 D, .slice pm lm.length cm] 24)) := by repeat (first | exact Below.refl _ _ | refine Below.alloc ?_ (by simp <;> omega) _)
  clear c_x_0
  clear c_x_1
  clear c_x_2
  replace HIm := Lib.hid (HIm.out.later hs4)
  replace c_a_0 := cell_later hs4 c_a_0
  replace c_a_1 := cell_later hs4 c_a_1
  replace c_a_2 := cell_later hs4 c_a_2
  have c_m_0 : (w3.alloc (.cells #[.int .i64 N, .int .i64 D, .slice pm lm.length cm] 24)).cell? ⟨w3.heap.size, 0, none⟩ = some (.int .i64 N) := by go_simp
  have c_m_1 : (w3.alloc (.cells #[.int .i64 N, .int .i64 D, .slice pm lm.length cm] 24)).cell? ⟨w3.heap.size, 1, none⟩ = some (.int .i64 D) := by go_simp
  have c_m_2 : (w3.alloc (.cells #[.int .i64 N, .int .i64 D, .slice pm lm.length cm] 24)).cell? ⟨w3.heap.size, 2, none⟩ = some (.slice pm lm.length cm) := by go_simp
  have hB4 := below_two hB3 hs4
  clear hB3 hs4
  have y4_a := z_a
  have y4_x := z_x
  generalize (w3.alloc (.cells #[.int .i64 N, .int .i64 D, .slice pm lm.length cm] 24)) = w4 at *
  clear z_a
  have z_a := World.block_lt_of_cell? _ _ c_a_0
  have z_m := World.block_lt_of_cell? _ _ c_m_0
  clear z_x
  go_wp2_with fail
  refine (placeL HIm.out HRm.out i1 iof HPL1.out).mono ?_
  rintro e w5 ⟨rfl, hb5⟩
  have hs5 := hb5
  replace HIm := Lib.hid (HIm.out.later hs5)
  replace c_a_0 := cell_later hs5 c_a_0
  replace c_a_1 := cell_later hs5 c_a_1
  replace c_a_2 := cell_later hs5 c_a_2
  replace c_m_0 := cell_later hs5 c_m_0
  replace c_m_1 := cell_later hs5 c_m_1
  replace c_m_2 := cell_later hs5 c_m_2
  clear z_a
  have z_a := World.block_lt_of_cell? _ _ c_a_0
  clear z_m
  have z_m := World.block_lt_of_cell? _ _ c_m_0
  have hB5 := below_two hB4 hs5
  clear hB4 hs5
  go_wp2_with fail
  have hs6 : Below w5.heap.size w5 (w5.alloc (.cells #[.int .i64 p1, .int .i64 r1] 26)) := by repeat (first | exact Below.refl _ _ | refine Below.alloc ?_ (by simp <;> omega) _)
  replace HIm := Lib.hid (HIm.out.later hs6)
  replace c_a_0 := cell_later hs6 c_a_0
  replace c_a_1 := cell_later hs6 c_a_1
  replace c_a_2 := cell_later hs6 c_a_2
  replace c_m_0 := cell_later hs6 c_m_0
  replace c_m_1 := cell_later hs6 c_m_1
  replace c_m_2 := cell_later hs6 c_m_2
  have c_p1_0 : (w5.alloc (.cells #[.int .i64 p1, .int .i64 r1] 26)).cell? ⟨w5.heap.size, 0, none⟩ = some (.int .i64 p1) := by go_simp
  have c_p1_1 : (w5.alloc (.cells #[.int .i64 p1, .int .i64 r1] 26)).cell? ⟨w5.heap.size, 1, none⟩ = some (.int .i64 r1) := by go_simp
  have hB6 := below_two hB5 hs6
  clear hB5 hs6
  have y6_a := z_a
  have y6_m := z_m
  generalize (w5.alloc (.cells #[.int .i64 p1, .int .i64 r1] 26)) = w6 at *
  clear z_a
  have z_a := World.block_lt_of_cell? _ _ c_a_0
  clear z_m
  have z_m := World.block_lt_of_cell? _ _ c_m_0
  have z_p1 := World.block_lt_of_cell? _ _ c_p1_0
  go_wp2_with fail
  refine (placeL HIm.out HRm.out i2 iof HPL2.out).mono ?_
  rintro e w7 ⟨rfl, hb7⟩
  have hs7 := hb7
  replace HIm := Lib.hid (HIm.out.later hs7)
  replace c_a_0 := cell_later hs7 c_a_0
  replace c_a_1 := cell_later hs7 c_a_1
  replace c_a_2 := cell_later hs7 c_a_2
  replace c_m_0 := cell_later hs7 c_m_0
  replace c_m_1 := cell_later hs7 c_m_1
  replace c_m_2 := cell_later hs7 c_m_2
  replace c_p1_0 := cell_later hs7 c_p1_0
  replace c_p1_1 := cell_later hs7 c_p1_1
  clear z_a
  have z_a := World.block_lt_of_cell? _ _ c_a_0
  clear z_m
  have z_m := World.block_lt_of_cell? _ _ c_m_0
  clear z_p1
  have z_p1 := World.block_lt_of_cell? _ _ c_p1_0
  have hB7 := below_two hB6 hs7
  clear hB6 hs7
  go_wp2_with fail
  have hs8 : Below w7.heap.size w7 (w7.alloc (.cells #[.int .i64 p2, .int .i64 r2] 26)) := by repeat (first | exact Below.refl _ _ | refine Below.alloc ?_ (by simp <;> omega) _)
  replace HIm := Lib.hid (HIm.out.later hs8)
  replace c_a_0 := cell_later hs8 c_a_0
  replace c_a_1 := cell_later hs8 c_a_1
  replace c_a_2 := cell_later hs8 c_a_2
  replace c_m_0 := cell_later hs8 c_m_0
  replace c_m_1 := cell_later hs8 c_m_1
  replace c_m_2 := cell_later hs8 c_m_2
  replace c_p1_0 := cell_later hs8 c_p1_0
  replace c_p1_1 := cell_later hs8 c_p1_1
  have c_p2_0 : (w7.alloc (.cells #[.int .i64 p2, .int .i64 r2] 26)).cell? ⟨w7.heap.size, 0, none⟩ = some (.int .i64 p2) := by go_simp
  have c_p2_1 : (w7.alloc (.cells #[.int .i64 p2, .int .i64 r2] 26)).cell? ⟨w7.heap.size, 1, none⟩ = some (.int .i64 r2) := by go_simp
  have hB8 := below_two hB7 hs8
  clear hB7 hs8
  have y8_a := z_a
  have y8_m := z_m
  have y8_p1 := z_p1
  generalize (w7.alloc (.cells #[.int .i64 p2, .int .i64 r2] 26)) = w8 at *
  clear z_a
  have z_a := World.block_lt_of_cell? _ _ c_a_0
  clear z_m
  have z_m := World.block_lt_of_cell? _ _ c_m_0
  clear z_p1
  have z_p1 := World.block_lt_of_cell? _ _ c_p1_0
  have z_p2 := World.block_lt_of_cell? _ _ c_p2_0
  go_wp2_with fail
  refine (placeL HIm.out HRm.out i3 iof HPL3.out).mono ?_
  rintro e w9 ⟨rfl, hb9⟩
  have hs9 := hb9
  replace HIm := Lib.hid (HIm.out.later hs9)
  replace c_a_0 := cell_later hs9 c_a_0
  replace c_a_1 := cell_later hs9 c_a_1
  replace c_a_2 := cell_later hs9 c_a_2
  replace c_m_0 := cell_later hs9 c_m_0
  replace c_m_1 := cell_later hs9 c_m_1
  replace c_m_2 := cell_later hs9 c_m_2
  replace c_p1_0 := cell_later hs9 c_p1_0
  replace c_p1_1 := cell_later hs9 c_p1_1
  replace c_p2_0 := cell_later hs9 c_p2_0
  replace c_p2_1 := cell_later hs9 c_p2_1
  clear z_a
  have z_a := World.block_lt_of_cell? _ _ c_a_0
  clear z_m
  have z_m := World.block_lt_of_cell? _ _ c_m_0
  clear z_p1
  have z_p1 := World.block_lt_of_cell? _ _ c_p1_0
  clear z_p2
  have z_p2 := World.block_lt_of_cell? _ _ c_p2_0
  have hB9 := below_two hB8 hs9
  clear hB8 hs9
  go_wp2_with fail
  have hs10 : Below w9.heap.size w9 (w9.alloc (.cells #[.int .i64 p3, .int .i64 r3] 26)) := by repeat (first | exact Below.refl _ _ | refine Below.alloc ?_ (by simp <;> omega) _)
  clear c_a_0
  clear c_a_1
  clear c_a_2
  replace HIm := Lib.hid (HIm.out.later hs10)
  replace c_m_0 := cell_later hs10 c_m_0
  replace c_m_1 := cell_later hs10 c_m_1
  replace c_m_2 := cell_later hs10 c_m_2
  replace c_p1_0 := cell_later hs10 c_p1_0
  replace c_p1_1 := cell_later hs10 c_p1_1
  replace c_p2_0 := cell_later hs10 c_p2_0
  replace c_p2_1 := cell_later hs10 c_p2_1
  have c_p3_0 : (w9.alloc (.cells #[.int .i64 p3, .int .i64 r3] 26)).cell? ⟨w9.heap.size, 0, none⟩ = some (.int .i64 p3) := by go_simp
  have c_p3_1 : (w9.alloc (.cells #[.int .i64 p3, .int .i64 r3] 26)).cell? ⟨w9.heap.size, 1, none⟩ = some (.int .i64 r3) := by go_simp
  have hB10 := below_two hB9 hs10
  clear hB9 hs10
  have y10_a := z_a
  have y10_m := z_m
  have y10_p1 := z_p1
  have y10_p2 := z_p2
  generalize (w9.alloc (.cells #[.int .i64 p3, .int .i64 r3] 26)) = w10 at *
  clear z_m
  have z_m := World.block_lt_of_cell? _ _ c_m_0
  clear z_p1
  have z_p1 := World.block_lt_of_cell? _ _ c_p1_0
  clear z_p2
  have z_p2 := World.block_lt_of_cell? _ _ c_p2_0
  have z_p3 := World.block_lt_of_cell? _ _ c_p3_0
  clear z_a
  go_wp2_with fail
  refine (cmpL HM1.out _).mono ?_
  rintro e w11 ⟨rfl, hb11⟩
  have hs11 := hb11
  replace HIm := Lib.hid (HIm.out.later hs11)
  replace c_m_0 := cell_later hs11 c_m_0
  replace c_m_1 := cell_later hs11 c_m_1
  replace c_m_2 := cell_later hs11 c_m_2
  replace c_p1_0 := cell_later hs11 c_p1_0
  replace c_p1_1 := cell_later hs11 c_p1_1
  replace c_p2_0 := cell_later hs11 c_p2_0
  replace c_p2_1 := cell_later hs11 c_p2_1
  replace c_p3_0 := cell_later hs11 c_p3_0
  replace c_p3_1 := cell_later hs11 c_p3_1
  clear z_m
  have z_m := World.block_lt_of_cell? _ _ c_m_0
  clear z_p1
  have z_p1 := World.block_lt_of_cell? _ _ c_p1_0
  clear z_p2
  have z_p2 := World.block_lt_of_cell? _ _ c_p2_0
  clear z_p3
  have z_p3 := World.block_lt_of_cell? _ _ c_p3_0
  have hB11 := below_two hB10 hs11
  clear hB10 hs11
  have hge2 : decide (0 ≤ m1) = true := decide_eq_true hge
  go_wp2
  go_ret
  exact ⟨rfl, hB11⟩

set_option maxRecDepth 100000 in
set_option maxHeartbeats 40000000 in
theorem meterParts_B (a b : Int) (v : Value) (gs : List Int) (gr : Bool) (k1 k2 k3 of_ : Int) (w : World) (hI : Ints w v gs) (ia : Rat.I64 a) (ib : Rat.I64 b) (hgs : ∀ z ∈ gs, Rat.I64 z) (i1 : Rat.I64 k1) (i2 : Rat.I64 k2) (i3 : Rat.I64 k3) (iof : Rat.I64 of_) (hA : mkK (mkN a) k1 of_ < mkK (mkN a) k2 of_) (hB : ¬ mkK (mkN a) k2 of_ < mkK (mkN a) k3 of_) : LawHolds 8 #[mt a b v, .bool gr, .agg #[.int .i64 k1, .int .i64 k2, .int .i64 k3], .int .i64 of_] w := by
  unfold LawHolds
  obtain ⟨px, cx, rfl, hlx, hcx⟩ := hI
  have HX : Hid (Ints w (.slice px gs.length cx) gs) := Lib.hid ⟨px, cx, rfl, hlx, hcx⟩
  clear hlx hcx
  have HGS := Lib.hid hgs
  clear hgs
  obtain ⟨N, HN⟩ : ∃ N, Hid (mkN a = N) := ⟨_, Lib.hid rfl⟩
  obtain ⟨D, HD⟩ : ∃ D, Hid (mkD b = D) := ⟨_, Lib.hid rfl⟩
  obtain ⟨S, HS⟩ : ∃ S, Hid (mkS of_ = S) := ⟨_, Lib.hid rfl⟩
  obtain ⟨n1, n32⟩ := mkN_b a
  obtain ⟨d1, d64⟩ := mkD_b b
  obtain ⟨s1, s12⟩ := mkS_b of_
  rw [HN.out] at n1 n32
  rw [HD.out] at d1 d64
  rw [HS.out] at s1 s12
  obtain ⟨ns1, ns2⟩ := mul_b n1 n32 s1 s12
  obtain ⟨ds1, ds2⟩ := mul_b d1 d64 s1 s12
  obtain ⟨DD, HDD⟩ : ∃ DD, Hid (D * S = DD) := ⟨_, Lib.hid rfl⟩
  obtain ⟨NS, HNS⟩ : ∃ NS, Hid (N * S = NS) := ⟨_, Lib.hid rfl⟩
  rw [HNS.out] at ns1 ns2
  rw [HDD.out] at ds1 ds2
  obtain ⟨K1, HK1⟩ : ∃ K, Hid (mkK N k1 of_ = K) := ⟨_, Lib.hid rfl⟩
  obtain ⟨l1, h1⟩ := mkK_b (N := N) (a := k1) (o := of_) n1
  rw [HK1.out] at l1
  rw [HK1.out, HS.out, HNS.out] at h1
  have q1 : Met.Is (Met.of K1 DD) K1 DD := Met.is_of ds1 (by omega) (by omega) (by omega)
  obtain ⟨⟨p1, r1⟩, HP1⟩ : ∃ X, Hid (Met.of K1 DD = X) := ⟨_, Lib.hid rfl⟩
  rw [HP1.out] at q1
  have HPL1 : Hid (Met.of (mkK N k1 of_) (D * mkS of_) = (p1, r1)) := Lib.hid (by rw [HK1.out, HS.out, HDD.out]; exact HP1.out)
  have HQ1 := Lib.hid q1
  obtain ⟨K2, HK2⟩ : ∃ K, Hid (mkK N k2 of_ = K) := ⟨_, Lib.hid rfl⟩
  obtain ⟨l2, h2⟩ := mkK_b (N := N) (a := k2) (o := of_) n1
  rw [HK2.out] at l2
  rw [HK2.out, HS.out, HNS.out] at h2
  have q2 : Met.Is (Met.of K2 DD) K2 DD := Met.is_of ds1 (by omega) (by omega) (by omega)
  obtain ⟨⟨p2, r2⟩, HP2⟩ : ∃ X, Hid (Met.of K2 DD = X) := ⟨_, Lib.hid rfl⟩
  rw [HP2.out] at q2
  have HPL2 : Hid (Met.of (mkK N k2 of_) (D * mkS of_) = (p2, r2)) := Lib.hid (by rw [HK2.out, HS.out, HDD.out]; exact HP2.out)
  have HQ2 := Lib.hid q2
  obtain ⟨K3, HK3⟩ : ∃ K, Hid (mkK N k3 of_ = K) := ⟨_, Lib.hid rfl⟩
  obtain ⟨l3, h3⟩ := mkK_b (N := N) (a := k3) (o := of_) n1
  rw [HK3.out] at l3
  rw [HK3.out, HS.out, HNS.out] at h3
  have q3 : Met.Is (Met.of K3 DD) K3 DD := Met.is_of ds1 (by omega) (by omega) (by omega)
  obtain ⟨⟨p3, r3⟩, HP3⟩ : ∃ X, Hid (Met.of K3 DD = X) := ⟨_, Lib.hid rfl⟩
  rw [HP3.out] at q3
  have HPL3 : Hid (Met.of (mkK N k3 of_) (D * mkS of_) = (p3, r3)) := Lib.hid (by rw [HK3.out, HS.out, HDD.out]; exact HP3.out)
  have HQ3 := Lib.hid q3
  rw [HN.out, HK1.out, HK2.out] at hA
  rw [HN.out, HK2.out, HK3.out] at hB
  have HM1 : Hid (Met.cm (p1, r1) (p2, r2) = -1) := Lib.hid (by rw [q1.cm q2]; exact sgn_m1 (by omega))
  obtain ⟨m2, HM2⟩ : ∃ m, Hid (Met.cm (p2, r2) (p3, r3) = m) := ⟨_, Lib.hid rfl⟩
  have hge : 0 ≤ m2 := by rw [← HM2.out, q2.cm q3, Met.sgn_ge]; omega
  clear q1 q2 q3
  have hgR := guardR
  have heR := eql_rt
  have hnR := neq_rt
  have hsR := eqR_self
  have hB0 : Below w.heap.size w w := Below.refl _ _
  go_enter Try.func8, Try.ntmps8
  go_wp2_with fail
  refine (awake_any _).mono ?_
  rintro e w1 ⟨rfl, hb1⟩
  have hs1 : Below w.heap.size w w1 := Below.trans (by repeat (first | exact Below.refl _ _ | refine Below.alloc ?_ (by simp <;> omega) _)) (hb1.mono (by simp <;> omega))
  have c_x_0 : w1.cell? ⟨w.heap.size, 0, none⟩ = some (.int .i64 a) := (hb1.cell (by simp <;> omega)).trans (by go_simp)
  have c_x_1 : w1.cell? ⟨w.heap.size, 1, none⟩ = some (.int .i64 b) := (hb1.cell (by simp <;> omega)).trans (by go_simp)
  have c_x_2 : w1.cell? ⟨w.heap.size, 2, none⟩ = some (.slice px gs.length cx) := (hb1.cell (by simp <;> omega)).trans (by go_simp)
  have c_a_0 : w1.cell? ⟨w.heap.size + 1, 0, none⟩ = some (.int .i64 k1) := (hb1.cell (by simp <;> omega)).trans (by go_simp)
  have c_a_1 : w1.cell? ⟨w.heap.size + 1, 1, none⟩ = some (.int .i64 k2) := (hb1.cell (by simp <;> omega)).trans (by go_simp)
  have c_a_2 : w1.cell? ⟨w.heap.size + 1, 2, none⟩ = some (.int .i64 k3) := (hb1.cell (by simp <;> omega)).trans (by go_simp)
  have z_a := World.block_lt_of_cell? _ _ c_a_0
  have z_x := World.block_lt_of_cell? _ _ c_x_0
  have hB1 := below_two hB0 hs1
  clear hB0 hs1 hb1
  go_wp2_with fail
  have hs2 : Below w1.heap.size w1 w1 := by repeat (first | exact Below.refl _ _ | refine Below.alloc ?_ (by simp <;> omega) _)
  replace c_x_0 := cell_later hs2 c_x_0
  replace c_x_1 := cell_later hs2 c_x_1
  replace c_x_2 := cell_later hs2 c_x_2
  replace c_a_0 := cell_later hs2 c_a_0
  replace c_a_1 := cell_later hs2 c_a_1
  replace c_a_2 := cell_later hs2 c_a_2
  have hB2 := below_two hB1 hs2
  clear hB1 hs2
  have y2_a := z_a
  have y2_x := z_x
  generalize w1 = w2 at *
  clear z_a
  have z_a := World.block_lt_of_cell? _ _ c_a_0
  clear z_x
  have z_x := World.block_lt_of_cell? _ _ c_x_0
  go_wp2_with fail
  refine (meterL HN.out HD.out _ gs _ (HX.out.later hB2) ia ib HGS.out gr).mono ?_
  rintro e w3 ⟨⟨um, rfl, lm, him, hrm, hzm⟩, hb3⟩
  have hs3 := hb3
  replace c_x_0 := cell_later hs3 c_x_0
  replace c_x_1 := cell_later hs3 c_x_1
  replace c_x_2 := cell_later hs3 c_x_2
  replace c_a_0 := cell_later hs3 c_a_0
  replace c_a_1 := cell_later hs3 c_a_1
  replace c_a_2 := cell_later hs3 c_a_2
  clear z_a
  have z_a := World.block_lt_of_cell? _ _ c_a_0
  clear z_x
  have z_x := World.block_lt_of_cell? _ _ c_x_0
  have hB3 := below_two hB2 hs3
  clear hB2 hs3
  obtain ⟨pm, cm, rfl, hlm, hcm⟩ := him
  have HIm : Hid (Ints _ (.slice pm lm.length cm) lm) := Lib.hid ⟨pm, cm, rfl, hlm, hcm⟩
  have HRm := Lib.hid hrm
  clear hcm hrm
  go_wp2_with fail
  have hs4 : Below w3.heap.size w3 (w3.alloc (.cells #[.int .i64 N, .int .i64 D, .slice pm lm.length cm] 24)) := by repeat (first | exact Below.refl _ _ | refine Below.alloc ?_ (by simp <;> omega) _)
  clear c_x_0
  clear c_x_1
  clear c_x_2
  replace HIm := Lib.hid (HIm.out.later hs4)
  replace c_a_0 := cell_later hs4 c_a_0
  replace c_a_1 := cell_later hs4 c_a_1
  replace c_a_2 := cell_later hs4 c_a_2
  have c_m_0 : (w3.alloc (.cells #[.int .i64 N, .int .i64 D, .slice pm lm.length cm] 24)).cell? ⟨w3.heap.size, 0, none⟩ = some (.int .i64 N) := by go_simp
  have c_m_1 : (w3.alloc (.cells #[.int .i64 N, .int .i64 D, .slice pm lm.length cm] 24)).cell? ⟨w3.heap.size, 1, none⟩ = some (.int .i64 D) := by go_simp
  have c_m_2 : (w3.alloc (.cells #[.int .i64 N, .int .i64 D, .slice pm lm.length cm] 24)).cell? ⟨w3.heap.size, 2, none⟩ = some (.slice pm lm.length cm) := by go_simp
  have hB4 := below_two hB3 hs4
  clear hB3 hs4
  have y4_a := z_a
  have y4_x := z_x
  generalize (w3.alloc (.cells #[.int .i64 N, .int .i64 D, .slice pm lm.length cm] 24)) = w4 at *
  clear z_a
  have z_a := World.block_lt_of_cell? _ _ c_a_0
  have z_m := World.block_lt_of_cell? _ _ c_m_0
  clear z_x
  go_wp2_with fail
  refine (placeL HIm.out HRm.out i1 iof HPL1.out).mono ?_
  rintro e w5 ⟨rfl, hb5⟩
  have hs5 := hb5
  replace HIm := Lib.hid (HIm.out.later hs5)
  replace c_a_0 := cell_later hs5 c_a_0
  replace c_a_1 := cell_later hs5 c_a_1
  replace c_a_2 := cell_later hs5 c_a_2
  replace c_m_0 := cell_later hs5 c_m_0
  replace c_m_1 := cell_later hs5 c_m_1
  replace c_m_2 := cell_later hs5 c_m_2
  clear z_a
  have z_a := World.block_lt_of_cell? _ _ c_a_0
  clear z_m
  have z_m := World.block_lt_of_cell? _ _ c_m_0
  have hB5 := below_two hB4 hs5
  clear hB4 hs5
  go_wp2_with fail
  have hs6 : Below w5.heap.size w5 (w5.alloc (.cells #[.int .i64 p1, .int .i64 r1] 26)) := by repeat (first | exact Below.refl _ _ | refine Below.alloc ?_ (by simp <;> omega) _)
  replace HIm := Lib.hid (HIm.out.later hs6)
  replace c_a_0 := cell_later hs6 c_a_0
  replace c_a_1 := cell_later hs6 c_a_1
  replace c_a_2 := cell_later hs6 c_a_2
  replace c_m_0 := cell_later hs6 c_m_0
  replace c_m_1 := cell_later hs6 c_m_1
  replace c_m_2 := cell_later hs6 c_m_2
  have c_p1_0 : (w5.alloc (.cells #[.int .i64 p1, .int .i64 r1] 26)).cell? ⟨w5.heap.size, 0, none⟩ = some (.int .i64 p1) := by go_simp
  have c_p1_1 : (w5.alloc (.cells #[.int .i64 p1, .int .i64 r1] 26)).cell? ⟨w5.heap.size, 1, none⟩ = some (.int .i64 r1) := by go_simp
  have hB6 := below_two hB5 hs6
  clear hB5 hs6
  have y6_a := z_a
  have y6_m := z_m
  generalize (w5.alloc (.cells #[.int .i64 p1, .int .i64 r1] 26)) = w6 at *
  clear z_a
  have z_a := World.block_lt_of_cell? _ _ c_a_0
  clear z_m
  have z_m := World.block_lt_of_cell? _ _ c_m_0
  have z_p1 := World.block_lt_of_cell? _ _ c_p1_0
  go_wp2_with fail
  refine (placeL HIm.out HRm.out i2 iof HPL2.out).mono ?_
  rintro e w7 ⟨rfl, hb7⟩
  have hs7 := hb7
  replace HIm := Lib.hid (HIm.out.later hs7)
  replace c_a_0 := cell_later hs7 c_a_0
  replace c_a_1 := cell_later hs7 c_a_1
  replace c_a_2 := cell_later hs7 c_a_2
  replace c_m_0 := cell_later hs7 c_m_0
  replace c_m_1 := cell_later hs7 c_m_1
  replace c_m_2 := cell_later hs7 c_m_2
  replace c_p1_0 := cell_later hs7 c_p1_0
  replace c_p1_1 := cell_later hs7 c_p1_1
  clear z_a
  have z_a := World.block_lt_of_cell? _ _ c_a_0
  clear z_m
  have z_m := World.block_lt_of_cell? _ _ c_m_0
  clear z_p1
  have z_p1 := World.block_lt_of_cell? _ _ c_p1_0
  have hB7 := below_two hB6 hs7
  clear hB6 hs7
  go_wp2_with fail
  have hs8 : Below w7.heap.size w7 (w7.alloc (.cells #[.int .i64 p2, .int .i64 r2] 26)) := by repeat (first | exact Below.refl _ _ | refine Below.alloc ?_ (by simp <;> omega) _)
  replace HIm := Lib.hid (HIm.out.later hs8)
  replace c_a_0 := cell_later hs8 c_a_0
  replace c_a_1 := cell_later hs8 c_a_1
  replace c_a_2 := cell_later hs8 c_a_2
  replace c_m_0 := cell_later hs8 c_m_0
  replace c_m_1 := cell_later hs8 c_m_1
  replace c_m_2 := cell_later hs8 c_m_2
  replace c_p1_0 := cell_later hs8 c_p1_0
  replace c_p1_1 := cell_later hs8 c_p1_1
  have c_p2_0 : (w7.alloc (.cells #[.int .i64 p2, .int .i64 r2] 26)).cell? ⟨w7.heap.size, 0, none⟩ = some (.int .i64 p2) := by go_simp
  have c_p2_1 : (w7.alloc (.cells #[.int .i64 p2, .int .i64 r2] 26)).cell? ⟨w7.heap.size, 1, none⟩ = some (.int .i64 r2) := by go_simp
  have hB8 := below_two hB7 hs8
  clear hB7 hs8
  have y8_a := z_a
  have y8_m := z_m
  have y8_p1 := z_p1
  generalize (w7.alloc (.cells #[.int .i64 p2, .int .i64 r2] 26)) = w8 at *
  clear z_a
  have z_a := World.block_lt_of_cell? _ _ c_a_0
  clear z_m
  have z_m := World.block_lt_of_cell? _ _ c_m_0
  clear z_p1
  have z_p1 := World.block_lt_of_cell? _ _ c_p1_0
  have z_p2 := World.block_lt_of_cell? _ _ c_p2_0
  go_wp2_with fail
  refine (placeL HIm.out HRm.out i3 iof HPL3.out).mono ?_
  rintro e w9 ⟨rfl, hb9⟩
  have hs9 := hb9
  replace HIm := Lib.hid (HIm.out.later hs9)
  replace c_a_0 := cell_later hs9 c_a_0
  replace c_a_1 := cell_later hs9 c_a_1
  replace c_a_2 := cell_later hs9 c_a_2
  replace c_m_0 := cell_later hs9 c_m_0
  replace c_m_1 := cell_later hs9 c_m_1
  replace c_m_2 := cell_later hs9 c_m_2
  replace c_p1_0 := cell_later hs9 c_p1_0
  replace c_p1_1 := cell_later hs9 c_p1_1
  replace c_p2_0 := cell_later hs9 c_p2_0
  replace c_p2_1 := cell_later hs9 c_p2_1
  clear z_a
  have z_a := World.block_lt_of_cell? _ _ c_a_0
  clear z_m
  have z_m := World.block_lt_of_cell? _ _ c_m_0
  clear z_p1
  have z_p1 := World.block_lt_of_cell? _ _ c_p1_0
  clear z_p2
  have z_p2 := World.block_lt_of_cell? _ _ c_p2_0
  have hB9 := below_two hB8 hs9
  clear hB8 hs9
  go_wp2_with fail
  have hs10 : Below w9.heap.size w9 (w9.alloc (.cells #[.int .i64 p3, .int .i64 r3] 26)) := by repeat (first | exact Below.refl _ _ | refine Below.alloc ?_ (by simp <;> omega) _)
  clear c_a_0
  clear c_a_1
  clear c_a_2
  replace HIm := Lib.hid (HIm.out.later hs10)
  replace c_m_0 := cell_later hs10 c_m_0
  replace c_m_1 := cell_later hs10 c_m_1
  replace c_m_2 := cell_later hs10 c_m_2
  replace c_p1_0 := cell_later hs10 c_p1_0
  replace c_p1_1 := cell_later hs10 c_p1_1
  replace c_p2_0 := cell_later hs10 c_p2_0
  replace c_p2_1 := cell_later hs10 c_p2_1
  have c_p3_0 : (w9.alloc (.cells #[.int .i64 p3, .int .i64 r3] 26)).cell? ⟨w9.heap.size, 0, none⟩ = some (.int .i64 p3) := by go_simp
  have c_p3_1 : (w9.alloc (.cells #[.int .i64 p3, .int .i64 r3] 26)).cell? ⟨w9.heap.size, 1, none⟩ = some (.int .i64 r3) := by go_simp
  have hB10 := below_two hB9 hs10
  clear hB9 hs10
  have y10_a := z_a
  have y10_m := z_m
  have y10_p1 := z_p1
  have y10_p2 := z_p2
  generalize (w9.alloc (.cells #[.int .i64 p3, .int .i64 r3] 26)) = w10 at *
  clear z_m
  have z_m := World.block_lt_of_cell? _ _ c_m_0
  clear z_p1
  have z_p1 := World.block_lt_of_cell? _ _ c_p1_0
  clear z_p2
  have z_p2 := World.block_lt_of_cell? _ _ c_p2_0
  have z_p3 := World.block_lt_of_cell? _ _ c_p3_0
  clear z_a
  go_wp2_with fail
  refine (cmpL HM1.out _).mono ?_
  rintro e w11 ⟨rfl, hb11⟩
  have hs11 := hb11
  replace HIm := Lib.hid (HIm.out.later hs11)
  replace c_m_0 := cell_later hs11 c_m_0
  replace c_m_1 := cell_later hs11 c_m_1
  replace c_m_2 := cell_later hs11 c_m_2
  replace c_p1_0 := cell_later hs11 c_p1_0
  replace c_p1_1 := cell_later hs11 c_p1_1
  replace c_p2_0 := cell_later hs11 c_p2_0
  replace c_p2_1 := cell_later hs11 c_p2_1
  replace c_p3_0 := cell_later hs11 c_p3_0
  replace c_p3_1 := cell_later hs11 c_p3_1
  clear z_m
  have z_m := World.block_lt_of_cell? _ _ c_m_0
  clear z_p1
  have z_p1 := World.block_lt_of_cell? _ _ c_p1_0
  clear z_p2
  have z_p2 := World.block_lt_of_cell? _ _ c_p2_0
  clear z_p3
  have z_p3 := World.block_lt_of_cell? _ _ c_p3_0
  have hB11 := below_two hB10 hs11
  clear hB10 hs11
  go_wp2_with fail
  refine (cmpL HM2.out _).mono ?_
  rintro e w12 ⟨rfl, hb12⟩
  have hs12 := hb12
  replace HIm := Lib.hid (HIm.out.later hs12)
  replace c_m_0 := cell_later hs12 c_m_0
  replace c_m_1 := cell_later hs12 c_m_1
  replace c_m_2 := cell_later hs12 c_m_2
  replace c_p1_0 := cell_later hs12 c_p1_0
  replace c_p1_1 := cell_later hs12 c_p1_1
  replace c_p2_0 := cell_later hs12 c_p2_0
  replace c_p2_1 := cell_later hs12 c_p2_1
  replace c_p3_0 := cell_later hs12 c_p3_0
  replace c_p3_1 := cell_later hs12 c_p3_1
  clear z_m
  have z_m := World.block_lt_of_cell? _ _ c_m_0
  clear z_p1
  have z_p1 := World.block_lt_of_cell? _ _ c_p1_0
  clear z_p2
  have z_p2 := World.block_lt_of_cell? _ _ c_p2_0
  clear z_p3
  have z_p3 := World.block_lt_of_cell? _ _ c_p3_0
  have hB12 := below_two hB11 hs12
  clear hB11 hs12
  have hge2 : decide (0 ≤ m2) = true := decide_eq_true hge
  go_wp2
  go_ret
  exact ⟨rfl, hB12⟩

set_option maxRecDepth 100000 in
set_option maxHeartbeats 40000000 in
theorem meterParts_C (a b : Int) (v : Value) (gs : List Int) (gr : Bool) (k1 k2 k3 of_ : Int) (w : World) (hI : Ints w v gs) (ia : Rat.I64 a) (ib : Rat.I64 b) (hgs : ∀ z ∈ gs, Rat.I64 z) (i1 : Rat.I64 k1) (i2 : Rat.I64 k2) (i3 : Rat.I64 k3) (iof : Rat.I64 of_) (hA : mkK (mkN a) k1 of_ < mkK (mkN a) k2 of_) (hB : mkK (mkN a) k2 of_ < mkK (mkN a) k3 of_) : LawHolds 8 #[mt a b v, .bool gr, .agg #[.int .i64 k1, .int .i64 k2, .int .i64 k3], .int .i64 of_] w := by
  unfold LawHolds
  obtain ⟨px, cx, rfl, hlx, hcx⟩ := hI
  have HX : Hid (Ints w (.slice px gs.length cx) gs) := Lib.hid ⟨px, cx, rfl, hlx, hcx⟩
  clear hlx hcx
  have HGS := Lib.hid hgs
  clear hgs
  obtain ⟨N, HN⟩ : ∃ N, Hid (mkN a = N) := ⟨_, Lib.hid rfl⟩
  obtain ⟨D, HD⟩ : ∃ D, Hid (mkD b = D) := ⟨_, Lib.hid rfl⟩
  obtain ⟨S, HS⟩ : ∃ S, Hid (mkS of_ = S) := ⟨_, Lib.hid rfl⟩
  obtain ⟨n1, n32⟩ := mkN_b a
  obtain ⟨d1, d64⟩ := mkD_b b
  obtain ⟨s1, s12⟩ := mkS_b of_
  rw [HN.out] at n1 n32
  rw [HD.out] at d1 d64
  rw [HS.out] at s1 s12
  obtain ⟨ns1, ns2⟩ := mul_b n1 n32 s1 s12
  obtain ⟨ds1, ds2⟩ := mul_b d1 d64 s1 s12
  obtain ⟨DD, HDD⟩ : ∃ DD, Hid (D * S = DD) := ⟨_, Lib.hid rfl⟩
  obtain ⟨NS, HNS⟩ : ∃ NS, Hid (N * S = NS) := ⟨_, Lib.hid rfl⟩
  rw [HNS.out] at ns1 ns2
  rw [HDD.out] at ds1 ds2
  obtain ⟨K1, HK1⟩ : ∃ K, Hid (mkK N k1 of_ = K) := ⟨_, Lib.hid rfl⟩
  obtain ⟨l1, h1⟩ := mkK_b (N := N) (a := k1) (o := of_) n1
  rw [HK1.out] at l1
  rw [HK1.out, HS.out, HNS.out] at h1
  have q1 : Met.Is (Met.of K1 DD) K1 DD := Met.is_of ds1 (by omega) (by omega) (by omega)
  obtain ⟨⟨p1, r1⟩, HP1⟩ : ∃ X, Hid (Met.of K1 DD = X) := ⟨_, Lib.hid rfl⟩
  rw [HP1.out] at q1
  have HPL1 : Hid (Met.of (mkK N k1 of_) (D * mkS of_) = (p1, r1)) := Lib.hid (by rw [HK1.out, HS.out, HDD.out]; exact HP1.out)
  have HQ1 := Lib.hid q1
  obtain ⟨K2, HK2⟩ : ∃ K, Hid (mkK N k2 of_ = K) := ⟨_, Lib.hid rfl⟩
  obtain ⟨l2, h2⟩ := mkK_b (N := N) (a := k2) (o := of_) n1
  rw [HK2.out] at l2
  rw [HK2.out, HS.out, HNS.out] at h2
  have q2 : Met.Is (Met.of K2 DD) K2 DD := Met.is_of ds1 (by omega) (by omega) (by omega)
  obtain ⟨⟨p2, r2⟩, HP2⟩ : ∃ X, Hid (Met.of K2 DD = X) := ⟨_, Lib.hid rfl⟩
  rw [HP2.out] at q2
  have HPL2 : Hid (Met.of (mkK N k2 of_) (D * mkS of_) = (p2, r2)) := Lib.hid (by rw [HK2.out, HS.out, HDD.out]; exact HP2.out)
  have HQ2 := Lib.hid q2
  obtain ⟨K3, HK3⟩ : ∃ K, Hid (mkK N k3 of_ = K) := ⟨_, Lib.hid rfl⟩
  obtain ⟨l3, h3⟩ := mkK_b (N := N) (a := k3) (o := of_) n1
  rw [HK3.out] at l3
  rw [HK3.out, HS.out, HNS.out] at h3
  have q3 : Met.Is (Met.of K3 DD) K3 DD := Met.is_of ds1 (by omega) (by omega) (by omega)
  obtain ⟨⟨p3, r3⟩, HP3⟩ : ∃ X, Hid (Met.of K3 DD = X) := ⟨_, Lib.hid rfl⟩
  rw [HP3.out] at q3
  have HPL3 : Hid (Met.of (mkK N k3 of_) (D * mkS of_) = (p3, r3)) := Lib.hid (by rw [HK3.out, HS.out, HDD.out]; exact HP3.out)
  have HQ3 := Lib.hid q3
  rw [HN.out, HK1.out, HK2.out] at hA
  rw [HN.out, HK2.out, HK3.out] at hB
  have HM1 : Hid (Met.cm (p1, r1) (p2, r2) = -1) := Lib.hid (by rw [q1.cm q2]; exact sgn_m1 (by omega))
  have HM2 : Hid (Met.cm (p2, r2) (p3, r3) = -1) := Lib.hid (by rw [q2.cm q3]; exact sgn_m1 (by omega))
  obtain ⟨jx0, jx1⟩ := q2.sb q1 (by omega) (by omega) (by omega)
  obtain ⟨⟨x0, x1⟩, HSx⟩ : ∃ X, Hid (Met.sb (p2, r2) (p1, r1) = X) := ⟨_, Lib.hid rfl⟩
  rw [HSx.out] at jx1
  have HEx := Lib.hid jx0
  have HIx := Lib.hid jx1
  clear jx0 jx1
  obtain ⟨jy0, jy1⟩ := q3.sb q2 (by omega) (by omega) (by omega)
  obtain ⟨⟨y0, y1⟩, HSy⟩ : ∃ X, Hid (Met.sb (p3, r3) (p2, r2) = X) := ⟨_, Lib.hid rfl⟩
  rw [HSy.out] at jy1
  have HEy := Lib.hid jy0
  have HIy := Lib.hid jy1
  clear jy0 jy1
  obtain ⟨jz0, jz1⟩ := q3.sb q1 (by omega) (by omega) (by omega)
  obtain ⟨⟨z0, z1⟩, HSz⟩ : ∃ X, Hid (Met.sb (p3, r3) (p1, r1) = X) := ⟨_, Lib.hid rfl⟩
  rw [HSz.out] at jz1
  have HEz := Lib.hid jz0
  have HIz := Lib.hid jz1
  clear jz0 jz1
  clear q1 q2 q3
  obtain ⟨i0, hi, hz0, hz1, hz2⟩ := info_parts infoR
  have hgR := guardR
  have heR := eql_rt
  have hnR := neq_rt
  have hsR := eqR_self
  have hB0 : Below w.heap.size w w := Below.refl _ _
  go_enter Try.func8, Try.ntmps8
  go_wp2_with fail
  refine (awake_any _).mono ?_
  rintro e w1 ⟨rfl, hb1⟩
  have hs1 : Below w.heap.size w w1 := Below.trans (by repeat (first | exact Below.refl _ _ | refine Below.alloc ?_ (by simp <;> omega) _)) (hb1.mono (by simp <;> omega))
  have c_x_0 : w1.cell? ⟨w.heap.size, 0, none⟩ = some (.int .i64 a) := (hb1.cell (by simp <;> omega)).trans (by go_simp)
  have c_x_1 : w1.cell? ⟨w.heap.size, 1, none⟩ = some (.int .i64 b) := (hb1.cell (by simp <;> omega)).trans (by go_simp)
  have c_x_2 : w1.cell? ⟨w.heap.size, 2, none⟩ = some (.slice px gs.length cx) := (hb1.cell (by simp <;> omega)).trans (by go_simp)
  have c_a_0 : w1.cell? ⟨w.heap.size + 1, 0, none⟩ = some (.int .i64 k1) := (hb1.cell (by simp <;> omega)).trans (by go_simp)
  have c_a_1 : w1.cell? ⟨w.heap.size + 1, 1, none⟩ = some (.int .i64 k2) := (hb1.cell (by simp <;> omega)).trans (by go_simp)
  have c_a_2 : w1.cell? ⟨w.heap.size + 1, 2, none⟩ = some (.int .i64 k3) := (hb1.cell (by simp <;> omega)).trans (by go_simp)
  have z_a := World.block_lt_of_cell? _ _ c_a_0
  have z_x := World.block_lt_of_cell? _ _ c_x_0
  have hB1 := below_two hB0 hs1
  clear hB0 hs1 hb1
  go_wp2_with fail
  have hs2 : Below w1.heap.size w1 w1 := by repeat (first | exact Below.refl _ _ | refine Below.alloc ?_ (by simp <;> omega) _)
  replace c_x_0 := cell_later hs2 c_x_0
  replace c_x_1 := cell_later hs2 c_x_1
  replace c_x_2 := cell_later hs2 c_x_2
  replace c_a_0 := cell_later hs2 c_a_0
  replace c_a_1 := cell_later hs2 c_a_1
  replace c_a_2 := cell_later hs2 c_a_2
  have hB2 := below_two hB1 hs2
  clear hB1 hs2
  have y2_a := z_a
  have y2_x := z_x
  generalize w1 = w2 at *
  clear z_a
  have z_a := World.block_lt_of_cell? _ _ c_a_0
  clear z_x
  have z_x := World.block_lt_of_cell? _ _ c_x_0
  go_wp2_with fail
  refine (meterL HN.out HD.out _ gs _ (HX.out.later hB2) ia ib HGS.out gr).mono ?_
  rintro e w3 ⟨⟨um, rfl, lm, him, hrm, hzm⟩, hb3⟩
  have hs3 := hb3
  replace c_x_0 := cell_later hs3 c_x_0
  replace c_x_1 := cell_later hs3 c_x_1
  replace c_x_2 := cell_later hs3 c_x_2
  replace c_a_0 := cell_later hs3 c_a_0
  replace c_a_1 := cell_later hs3 c_a_1
  replace c_a_2 := cell_later hs3 c_a_2
  clear z_a
  have z_a := World.block_lt_of_cell? _ _ c_a_0
  clear z_x
  have z_x := World.block_lt_of_cell? _ _ c_x_0
  have hB3 := below_two hB2 hs3
  clear hB2 hs3
  obtain ⟨pm, cm, rfl, hlm, hcm⟩ := him
  have HIm : Hid (Ints _ (.slice pm lm.length cm) lm) := Lib.hid ⟨pm, cm, rfl, hlm, hcm⟩
  have HRm := Lib.hid hrm
  clear hcm hrm
  go_wp2_with fail
  have hs4 : Below w3.heap.size w3 (w3.alloc (.cells #[.int .i64 N, .int .i64 D, .slice pm lm.length cm] 24)) := by repeat (first | exact Below.refl _ _ | refine Below.alloc ?_ (by simp <;> omega) _)
  clear c_x_0
  clear c_x_1
  clear c_x_2
  replace HIm := Lib.hid (HIm.out.later hs4)
  replace c_a_0 := cell_later hs4 c_a_0
  replace c_a_1 := cell_later hs4 c_a_1
  replace c_a_2 := cell_later hs4 c_a_2
  have c_m_0 : (w3.alloc (.cells #[.int .i64 N, .int .i64 D, .slice pm lm.length cm] 24)).cell? ⟨w3.heap.size, 0, none⟩ = some (.int .i64 N) := by go_simp
  have c_m_1 : (w3.alloc (.cells #[.int .i64 N, .int .i64 D, .slice pm lm.length cm] 24)).cell? ⟨w3.heap.size, 1, none⟩ = some (.int .i64 D) := by go_simp
  have c_m_2 : (w3.alloc (.cells #[.int .i64 N, .int .i64 D, .slice pm lm.length cm] 24)).cell? ⟨w3.heap.size, 2, none⟩ = some (.slice pm lm.length cm) := by go_simp
  have hB4 := below_two hB3 hs4
  clear hB3 hs4
  have y4_a := z_a
  have y4_x := z_x
  generalize (w3.alloc (.cells #[.int .i64 N, .int .i64 D, .slice pm lm.length cm] 24)) = w4 at *
  clear z_a
  have z_a := World.block_lt_of_cell? _ _ c_a_0
  have z_m := World.block_lt_of_cell? _ _ c_m_0
  clear z_x
  have HRR := Lib.hid (Met.isRight HRm.out)
  have HUP := Lib.hid (Met.zb_up HRR.out s1)
  have hct1 := Met.ct_of HRR.out s1 s12 (p := (p1, r1)) (l := (x0, x1)) (K := K1) (E := K2) (by rw [HDD.out]; exact HQ1.out) (by rw [HDD.out]; exact HIx.out) l1 (by omega) (by rw [HNS.out]; omega)
  rw [HDD.out] at hct1
  obtain ⟨L1, HL1⟩ : ∃ L, Hid ((Met.dif (Met.zs K1 K2 (Met.zb S (Met.grp N D lm)))).map (fun x => Met.of x DD) = L) := ⟨_, Lib.hid rfl⟩
  rw [HL1.out] at hct1
  have HCT1 := Lib.hid hct1
  have hp1 : 0 < L1.length := by rw [← HL1.out, List.length_map, Met.dif_length, Met.zs_length]; omega
  have hP1 := Lib.hid hp1
  obtain ⟨e1, HLN1⟩ : ∃ e, Hid (L1.length = e) := ⟨_, Lib.hid rfl⟩
  rw [HLN1.out] at hp1
  clear hct1
  have hct2 := Met.ct_of HRR.out s1 s12 (p := (p2, r2)) (l := (y0, y1)) (K := K2) (E := K3) (by rw [HDD.out]; exact HQ2.out) (by rw [HDD.out]; exact HIy.out) l2 (by omega) (by rw [HNS.out]; omega)
  rw [HDD.out] at hct2
  obtain ⟨L2, HL2⟩ : ∃ L, Hid ((Met.dif (Met.zs K2 K3 (Met.zb S (Met.grp N D lm)))).map (fun x => Met.of x DD) = L) := ⟨_, Lib.hid rfl⟩
  rw [HL2.out] at hct2
  have HCT2 := Lib.hid hct2
  have hp2 : 0 < L2.length := by rw [← HL2.out, List.length_map, Met.dif_length, Met.zs_length]; omega
  have hP2 := Lib.hid hp2
  obtain ⟨e2, HLN2⟩ : ∃ e, Hid (L2.length = e) := ⟨_, Lib.hid rfl⟩
  rw [HLN2.out] at hp2
  clear hct2
  have hct3 := Met.ct_of HRR.out s1 s12 (p := (p1, r1)) (l := (z0, z1)) (K := K1) (E := K3) (by rw [HDD.out]; exact HQ1.out) (by rw [HDD.out]; exact HIz.out) l1 (by omega) (by rw [HNS.out]; omega)
  rw [HDD.out] at hct3
  obtain ⟨L3, HL3⟩ : ∃ L, Hid ((Met.dif (Met.zs K1 K3 (Met.zb S (Met.grp N D lm)))).map (fun x => Met.of x DD) = L) := ⟨_, Lib.hid rfl⟩
  rw [HL3.out] at hct3
  have HCT3 := Lib.hid hct3
  have hp3 : 0 < L3.length := by rw [← HL3.out, List.length_map, Met.dif_length, Met.zs_length]; omega
  have hP3 := Lib.hid hp3
  obtain ⟨e3, HLN3⟩ : ∃ e, Hid (L3.length = e) := ⟨_, Lib.hid rfl⟩
  rw [HLN3.out] at hp3
  clear hct3
  have hin := Met.in_bar HRR.out s1 (p := (p2, r2)) (K := K2) (by rw [HDD.out]; exact HQ2.out) l2 (by rw [HNS.out]; omega)
  obtain ⟨hwE, hwV⟩ := Met.wt_at HRR.out s1 (p := (p2, r2)) (K := K2) (by rw [HDD.out]; exact HQ2.out) hin
  obtain ⟨wv, HWV⟩ : ∃ x, Hid (Met.wtV N D lm (p2, r2) = x) := ⟨_, Lib.hid rfl⟩
  rw [HWV.out] at hwV
  have HWE := Lib.hid hwE
  have HWC := Lib.hid hwV
  clear hwE hwV hin
  go_wp2_with fail
  refine (placeL HIm.out HRm.out i1 iof HPL1.out).mono ?_
  rintro e w5 ⟨rfl, hb5⟩
  have hs5 := hb5
  replace HIm := Lib.hid (HIm.out.later hs5)
  replace c_a_0 := cell_later hs5 c_a_0
  replace c_a_1 := cell_later hs5 c_a_1
  replace c_a_2 := cell_later hs5 c_a_2
  replace c_m_0 := cell_later hs5 c_m_0
  replace c_m_1 := cell_later hs5 c_m_1
  replace c_m_2 := cell_later hs5 c_m_2
  clear z_a
  have z_a := World.block_lt_of_cell? _ _ c_a_0
  clear z_m
  have z_m := World.block_lt_of_cell? _ _ c_m_0
  have hB5 := below_two hB4 hs5
  clear hB4 hs5
  go_wp2_with fail
  have hs6 : Below w5.heap.size w5 (w5.alloc (.cells #[.int .i64 p1, .int .i64 r1] 26)) := by repeat (first | exact Below.refl _ _ | refine Below.alloc ?_ (by simp <;> omega) _)
  replace HIm := Lib.hid (HIm.out.later hs6)
  replace c_a_0 := cell_later hs6 c_a_0
  replace c_a_1 := cell_later hs6 c_a_1
  replace c_a_2 := cell_later hs6 c_a_2
  replace c_m_0 := cell_later hs6 c_m_0
  replace c_m_1 := cell_later hs6 c_m_1
  replace c_m_2 := cell_later hs6 c_m_2
  have c_p1_0 : (w5.alloc (.cells #[.int .i64 p1, .int .i64 r1] 26)).cell? ⟨w5.heap.size, 0, none⟩ = some (.int .i64 p1) := by go_simp
  have c_p1_1 : (w5.alloc (.cells #[.int .i64 p1, .int .i64 r1] 26)).cell? ⟨w5.heap.size, 1, none⟩ = some (.int .i64 r1) := by go_simp
  have hB6 := below_two hB5 hs6
  clear hB5 hs6
  have y6_a := z_a
  have y6_m := z_m
  generalize (w5.alloc (.cells #[.int .i64 p1, .int .i64 r1] 26)) = w6 at *
  clear z_a
  have z_a := World.block_lt_of_cell? _ _ c_a_0
  clear z_m
  have z_m := World.block_lt_of_cell? _ _ c_m_0
  have z_p1 := World.block_lt_of_cell? _ _ c_p1_0
  go_wp2_with fail
  refine (placeL HIm.out HRm.out i2 iof HPL2.out).mono ?_
  rintro e w7 ⟨rfl, hb7⟩
  have hs7 := hb7
  replace HIm := Lib.hid (HIm.out.later hs7)
  replace c_a_0 := cell_later hs7 c_a_0
  replace c_a_1 := cell_later hs7 c_a_1
  replace c_a_2 := cell_later hs7 c_a_2
  replace c_m_0 := cell_later hs7 c_m_0
  replace c_m_1 := cell_later hs7 c_m_1
  replace c_m_2 := cell_later hs7 c_m_2
  replace c_p1_0 := cell_later hs7 c_p1_0
  replace c_p1_1 := cell_later hs7 c_p1_1
  clear z_a
  have z_a := World.block_lt_of_cell? _ _ c_a_0
  clear z_m
  have z_m := World.block_lt_of_cell? _ _ c_m_0
  clear z_p1
  have z_p1 := World.block_lt_of_cell? _ _ c_p1_0
  have hB7 := below_two hB6 hs7
  clear hB6 hs7
  go_wp2_with fail
  have hs8 : Below w7.heap.size w7 (w7.alloc (.cells #[.int .i64 p2, .int .i64 r2] 26)) := by repeat (first | exact Below.refl _ _ | refine Below.alloc ?_ (by simp <;> omega) _)
  replace HIm := Lib.hid (HIm.out.later hs8)
  replace c_a_0 := cell_later hs8 c_a_0
  replace c_a_1 := cell_later hs8 c_a_1
  replace c_a_2 := cell_later hs8 c_a_2
  replace c_m_0 := cell_later hs8 c_m_0
  replace c_m_1 := cell_later hs8 c_m_1
  replace c_m_2 := cell_later hs8 c_m_2
  replace c_p1_0 := cell_later hs8 c_p1_0
  replace c_p1_1 := cell_later hs8 c_p1_1
  have c_p2_0 : (w7.alloc (.cells #[.int .i64 p2, .int .i64 r2] 26)).cell? ⟨w7.heap.size, 0, none⟩ = some (.int .i64 p2) := by go_simp
  have c_p2_1 : (w7.alloc (.cells #[.int .i64 p2, .int .i64 r2] 26)).cell? ⟨w7.heap.size, 1, none⟩ = some (.int .i64 r2) := by go_simp
  have hB8 := below_two hB7 hs8
  clear hB7 hs8
  have y8_a := z_a
  have y8_m := z_m
  have y8_p1 := z_p1
  generalize (w7.alloc (.cells #[.int .i64 p2, .int .i64 r2] 26)) = w8 at *
  clear z_a
  have z_a := World.block_lt_of_cell? _ _ c_a_0
  clear z_m
  have z_m := World.block_lt_of_cell? _ _ c_m_0
  clear z_p1
  have z_p1 := World.block_lt_of_cell? _ _ c_p1_0
  have z_p2 := World.block_lt_of_cell? _ _ c_p2_0
  go_wp2_with fail
  refine (placeL HIm.out HRm.out i3 iof HPL3.out).mono ?_
  rintro e w9 ⟨rfl, hb9⟩
  have hs9 := hb9
  replace HIm := Lib.hid (HIm.out.later hs9)
  replace c_a_0 := cell_later hs9 c_a_0
  replace c_a_1 := cell_later hs9 c_a_1
  replace c_a_2 := cell_later hs9 c_a_2
  replace c_m_0 := cell_later hs9 c_m_0
  replace c_m_1 := cell_later hs9 c_m_1
  replace c_m_2 := cell_later hs9 c_m_2
  replace c_p1_0 := cell_later hs9 c_p1_0
  replace c_p1_1 := cell_later hs9 c_p1_1
  replace c_p2_0 := cell_later hs9 c_p2_0
  replace c_p2_1 := cell_later hs9 c_p2_1
  clear z_a
  have z_a := World.block_lt_of_cell? _ _ c_a_0
  clear z_m
  have z_m := World.block_lt_of_cell? _ _ c_m_0
  clear z_p1
  have z_p1 := World.block_lt_of_cell? _ _ c_p1_0
  clear z_p2
  have z_p2 := World.block_lt_of_cell? _ _ c_p2_0
  have hB9 := below_two hB8 hs9
  clear hB8 hs9
  go_wp2_with fail
  have hs10 : Below w9.heap.size w9 (w9.alloc (.cells #[.int .i64 p3, .int .i64 r3] 26)) := by repeat (first | exact Below.refl _ _ | refine Below.alloc ?_ (by simp <;> omega) _)
  clear c_a_0
  clear c_a_1
  clear c_a_2
  replace HIm := Lib.hid (HIm.out.later hs10)
  replace c_m_0 := cell_later hs10 c_m_0
  replace c_m_1 := cell_later hs10 c_m_1
  replace c_m_2 := cell_later hs10 c_m_2
  replace c_p1_0 := cell_later hs10 c_p1_0
  replace c_p1_1 := cell_later hs10 c_p1_1
  replace c_p2_0 := cell_later hs10 c_p2_0
  replace c_p2_1 := cell_later hs10 c_p2_1
  have c_p3_0 : (w9.alloc (.cells #[.int .i64 p3, .int .i64 r3] 26)).cell? ⟨w9.heap.size, 0, none⟩ = some (.int .i64 p3) := by go_simp
  have c_p3_1 : (w9.alloc (.cells #[.int .i64 p3, .int .i64 r3] 26)).cell? ⟨w9.heap.size, 1, none⟩ = some (.int .i64 r3) := by go_simp
  have hB10 := below_two hB9 hs10
  clear hB9 hs10
  have y10_a := z_a
  have y10_m := z_m
  have y10_p1 := z_p1
  have y10_p2 := z_p2
  generalize (w9.alloc (.cells #[.int .i64 p3, .int .i64 r3] 26)) = w10 at *
  clear z_m
  have z_m := World.block_lt_of_cell? _ _ c_m_0
  clear z_p1
  have z_p1 := World.block_lt_of_cell? _ _ c_p1_0
  clear z_p2
  have z_p2 := World.block_lt_of_cell? _ _ c_p2_0
  have z_p3 := World.block_lt_of_cell? _ _ c_p3_0
  clear z_a
  go_wp2_with fail
  refine (cmpL HM1.out _).mono ?_
  rintro e w11 ⟨rfl, hb11⟩
  have hs11 := hb11
  replace HIm := Lib.hid (HIm.out.later hs11)
  replace c_m_0 := cell_later hs11 c_m_0
  replace c_m_1 := cell_later hs11 c_m_1
  replace c_m_2 := cell_later hs11 c_m_2
  replace c_p1_0 := cell_later hs11 c_p1_0
  replace c_p1_1 := cell_later hs11 c_p1_1
  replace c_p2_0 := cell_later hs11 c_p2_0
  replace c_p2_1 := cell_later hs11 c_p2_1
  replace c_p3_0 := cell_later hs11 c_p3_0
  replace c_p3_1 := cell_later hs11 c_p3_1
  clear z_m
  have z_m := World.block_lt_of_cell? _ _ c_m_0
  clear z_p1
  have z_p1 := World.block_lt_of_cell? _ _ c_p1_0
  clear z_p2
  have z_p2 := World.block_lt_of_cell? _ _ c_p2_0
  clear z_p3
  have z_p3 := World.block_lt_of_cell? _ _ c_p3_0
  have hB11 := below_two hB10 hs11
  clear hB10 hs11
  go_wp2_with fail
  refine (cmpL HM2.out _).mono ?_
  rintro e w12 ⟨rfl, hb12⟩
  have hs12 := hb12
  replace HIm := Lib.hid (HIm.out.later hs12)
  replace c_m_0 := cell_later hs12 c_m_0
  replace c_m_1 := cell_later hs12 c_m_1
  replace c_m_2 := cell_later hs12 c_m_2
  replace c_p1_0 := cell_later hs12 c_p1_0
  replace c_p1_1 := cell_later hs12 c_p1_1
  replace c_p2_0 := cell_later hs12 c_p2_0
  replace c_p2_1 := cell_later hs12 c_p2_1
  replace c_p3_0 := cell_later hs12 c_p3_0
  replace c_p3_1 := cell_later hs12 c_p3_1
  clear z_m
  have z_m := World.block_lt_of_cell? _ _ c_m_0
  clear z_p1
  have z_p1 := World.block_lt_of_cell? _ _ c_p1_0
  clear z_p2
  have z_p2 := World.block_lt_of_cell? _ _ c_p2_0
  clear z_p3
  have z_p3 := World.block_lt_of_cell? _ _ c_p3_0
  have hB12 := below_two hB11 hs12
  clear hB11 hs12
  go_wp2_with fail
  refine (subL HSx.out HEx.out _).mono ?_
  rintro e w13 ⟨rfl, hb13⟩
  have hs13 := hb13
  replace HIm := Lib.hid (HIm.out.later hs13)
  replace c_m_0 := cell_later hs13 c_m_0
  replace c_m_1 := cell_later hs13 c_m_1
  replace c_m_2 := cell_later hs13 c_m_2
  replace c_p1_0 := cell_later hs13 c_p1_0
  replace c_p1_1 := cell_later hs13 c_p1_1
  replace c_p2_0 := cell_later hs13 c_p2_0
  replace c_p2_1 := cell_later hs13 c_p2_1
  replace c_p3_0 := cell_later hs13 c_p3_0
  replace c_p3_1 := cell_later hs13 c_p3_1
  clear z_m
  have z_m := World.block_lt_of_cell? _ _ c_m_0
  clear z_p1
  have z_p1 := World.block_lt_of_cell? _ _ c_p1_0
  clear z_p2
  have z_p2 := World.block_lt_of_cell? _ _ c_p2_0
  clear z_p3
  have z_p3 := World.block_lt_of_cell? _ _ c_p3_0
  have hB13 := below_two hB12 hs13
  clear hB12 hs13
  go_wp2_with fail
  have hs14 : Below w13.heap.size w13 (w13.alloc (.cells #[.int .i64 x0, .int .i64 x1] 26)) := by repeat (first | exact Below.refl _ _ | refine Below.alloc ?_ (by simp <;> omega) _)
  replace HIm := Lib.hid (HIm.out.later hs14)
  replace c_m_0 := cell_later hs14 c_m_0
  replace c_m_1 := cell_later hs14 c_m_1
  replace c_m_2 := cell_later hs14 c_m_2
  replace c_p1_0 := cell_later hs14 c_p1_0
  replace c_p1_1 := cell_later hs14 c_p1_1
  replace c_p2_0 := cell_later hs14 c_p2_0
  replace c_p2_1 := cell_later hs14 c_p2_1
  replace c_p3_0 := cell_later hs14 c_p3_0
  replace c_p3_1 := cell_later hs14 c_p3_1
  have c_x_0 : (w13.alloc (.cells #[.int .i64 x0, .int .i64 x1] 26)).cell? ⟨w13.heap.size, 0, none⟩ = some (.int .i64 x0) := by go_simp
  have c_x_1 : (w13.alloc (.cells #[.int .i64 x0, .int .i64 x1] 26)).cell? ⟨w13.heap.size, 1, none⟩ = some (.int .i64 x1) := by go_simp
  have hB14 := below_two hB13 hs14
  clear hB13 hs14
  have y14_m := z_m
  have y14_p1 := z_p1
  have y14_p2 := z_p2
  have y14_p3 := z_p3
  generalize (w13.alloc (.cells #[.int .i64 x0, .int .i64 x1] 26)) = w14 at *
  clear z_m
  have z_m := World.block_lt_of_cell? _ _ c_m_0
  clear z_p1
  have z_p1 := World.block_lt_of_cell? _ _ c_p1_0
  clear z_p2
  have z_p2 := World.block_lt_of_cell? _ _ c_p2_0
  clear z_p3
  have z_p3 := World.block_lt_of_cell? _ _ c_p3_0
  have z_x := World.block_lt_of_cell? _ _ c_x_0
  go_wp2_with fail
  refine (subL HSy.out HEy.out _).mono ?_
  rintro e w15 ⟨rfl, hb15⟩
  have hs15 := hb15
  replace HIm := Lib.hid (HIm.out.later hs15)
  replace c_m_0 := cell_later hs15 c_m_0
  replace c_m_1 := cell_later hs15 c_m_1
  replace c_m_2 := cell_later hs15 c_m_2
  replace c_p1_0 := cell_later hs15 c_p1_0
  replace c_p1_1 := cell_later hs15 c_p1_1
  replace c_p2_0 := cell_later hs15 c_p2_0
  replace c_p2_1 := cell_later hs15 c_p2_1
  replace c_p3_0 := cell_later hs15 c_p3_0
  replace c_p3_1 := cell_later hs15 c_p3_1
  replace c_x_0 := cell_later hs15 c_x_0
  replace c_x_1 := cell_later hs15 c_x_1
  clear z_m
  have z_m := World.block_lt_of_cell? _ _ c_m_0
  clear z_p1
  have z_p1 := World.block_lt_of_cell? _ _ c_p1_0
  clear z_p2
  have z_p2 := World.block_lt_of_cell? _ _ c_p2_0
  clear z_p3
  have z_p3 := World.block_lt_of_cell? _ _ c_p3_0
  clear z_x
  have z_x := World.block_lt_of_cell? _ _ c_x_0
  have hB15 := below_two hB14 hs15
  clear hB14 hs15
  go_wp2_with fail
  have hs16 : Below w15.heap.size w15 (w15.alloc (.cells #[.int .i64 y0, .int .i64 y1] 26)) := by repeat (first | exact Below.refl _ _ | refine Below.alloc ?_ (by simp <;> omega) _)
  replace HIm := Lib.hid (HIm.out.later hs16)
  replace c_m_0 := cell_later hs16 c_m_0
  replace c_m_1 := cell_later hs16 c_m_1
  replace c_m_2 := cell_later hs16 c_m_2
  replace c_p1_0 := cell_later hs16 c_p1_0
  replace c_p1_1 := cell_later hs16 c_p1_1
  replace c_p2_0 := cell_later hs16 c_p2_0
  replace c_p2_1 := cell_later hs16 c_p2_1
  replace c_p3_0 := cell_later hs16 c_p3_0
  replace c_p3_1 := cell_later hs16 c_p3_1
  replace c_x_0 := cell_later hs16 c_x_0
  replace c_x_1 := cell_later hs16 c_x_1
  have c_y_0 : (w15.alloc (.cells #[.int .i64 y0, .int .i64 y1] 26)).cell? ⟨w15.heap.size, 0, none⟩ = some (.int .i64 y0) := by go_simp
  have c_y_1 : (w15.alloc (.cells #[.int .i64 y0, .int .i64 y1] 26)).cell? ⟨w15.heap.size, 1, none⟩ = some (.int .i64 y1) := by go_simp
  have hB16 := below_two hB15 hs16
  clear hB15 hs16
  have y16_m := z_m
  have y16_p1 := z_p1
  have y16_p2 := z_p2
  have y16_p3 := z_p3
  have y16_x := z_x
  generalize (w15.alloc (.cells #[.int .i64 y0, .int .i64 y1] 26)) = w16 at *
  clear z_m
  have z_m := World.block_lt_of_cell? _ _ c_m_0
  clear z_p1
  have z_p1 := World.block_lt_of_cell? _ _ c_p1_0
  clear z_p2
  have z_p2 := World.block_lt_of_cell? _ _ c_p2_0
  clear z_p3
  have z_p3 := World.block_lt_of_cell? _ _ c_p3_0
  clear z_x
  have z_x := World.block_lt_of_cell? _ _ c_x_0
  have z_y := World.block_lt_of_cell? _ _ c_y_0
  go_wp2_with fail
  refine (subL HSz.out HEz.out _).mono ?_
  rintro e w17 ⟨rfl, hb17⟩
  have hs17 := hb17
  replace HIm := Lib.hid (HIm.out.later hs17)
  replace c_m_0 := cell_later hs17 c_m_0
  replace c_m_1 := cell_later hs17 c_m_1
  replace c_m_2 := cell_later hs17 c_m_2
  replace c_p1_0 := cell_later hs17 c_p1_0
  replace c_p1_1 := cell_later hs17 c_p1_1
  replace c_p2_0 := cell_later hs17 c_p2_0
  replace c_p2_1 := cell_later hs17 c_p2_1
  replace c_p3_0 := cell_later hs17 c_p3_0
  replace c_p3_1 := cell_later hs17 c_p3_1
  replace c_x_0 := cell_later hs17 c_x_0
  replace c_x_1 := cell_later hs17 c_x_1
  replace c_y_0 := cell_later hs17 c_y_0
  replace c_y_1 := cell_later hs17 c_y_1
  clear z_m
  have z_m := World.block_lt_of_cell? _ _ c_m_0
  clear z_p1
  have z_p1 := World.block_lt_of_cell? _ _ c_p1_0
  clear z_p2
  have z_p2 := World.block_lt_of_cell? _ _ c_p2_0
  clear z_p3
  have z_p3 := World.block_lt_of_cell? _ _ c_p3_0
  clear z_x
  have z_x := World.block_lt_of_cell? _ _ c_x_0
  clear z_y
  have z_y := World.block_lt_of_cell? _ _ c_y_0
  have hB17 := below_two hB16 hs17
  clear hB16 hs17
  go_wp2_with fail
  have hs18 : Below w17.heap.size w17 (w17.alloc (.cells #[.int .i64 z0, .int .i64 z1] 26)) := by repeat (first | exact Below.refl _ _ | refine Below.alloc ?_ (by simp <;> omega) _)
  replace HIm := Lib.hid (HIm.out.later hs18)
  replace c_m_0 := cell_later hs18 c_m_0
  replace c_m_1 := cell_later hs18 c_m_1
  replace c_m_2 := cell_later hs18 c_m_2
  replace c_p1_0 := cell_later hs18 c_p1_0
  replace c_p1_1 := cell_later hs18 c_p1_1
  replace c_p2_0 := cell_later hs18 c_p2_0
  replace c_p2_1 := cell_later hs18 c_p2_1
  replace c_p3_0 := cell_later hs18 c_p3_0
  replace c_p3_1 := cell_later hs18 c_p3_1
  replace c_x_0 := cell_later hs18 c_x_0
  replace c_x_1 := cell_later hs18 c_x_1
  replace c_y_0 := cell_later hs18 c_y_0
  replace c_y_1 := cell_later hs18 c_y_1
  have c_z_0 : (w17.alloc (.cells #[.int .i64 z0, .int .i64 z1] 26)).cell? ⟨w17.heap.size, 0, none⟩ = some (.int .i64 z0) := by go_simp
  have c_z_1 : (w17.alloc (.cells #[.int .i64 z0, .int .i64 z1] 26)).cell? ⟨w17.heap.size, 1, none⟩ = some (.int .i64 z1) := by go_simp
  have hB18 := below_two hB17 hs18
  clear hB17 hs18
  have y18_m := z_m
  have y18_p1 := z_p1
  have y18_p2 := z_p2
  have y18_p3 := z_p3
  have y18_x := z_x
  have y18_y := z_y
  generalize (w17.alloc (.cells #[.int .i64 z0, .int .i64 z1] 26)) = w18 at *
  clear z_m
  have z_m := World.block_lt_of_cell? _ _ c_m_0
  clear z_p1
  have z_p1 := World.block_lt_of_cell? _ _ c_p1_0
  clear z_p2
  have z_p2 := World.block_lt_of_cell? _ _ c_p2_0
  clear z_p3
  have z_p3 := World.block_lt_of_cell? _ _ c_p3_0
  clear z_x
  have z_x := World.block_lt_of_cell? _ _ c_x_0
  clear z_y
  have z_y := World.block_lt_of_cell? _ _ c_y_0
  have z_z := World.block_lt_of_cell? _ _ c_z_0
  go_wp2_with fail
  refine (cut_cap HIm.out HCT1.out).mono ?_
  rintro e w19 ⟨⟨u1, rfl, hu1⟩, hb19⟩
  have hs19 := hb19
  replace HIm := Lib.hid (HIm.out.later hs19)
  replace c_m_0 := cell_later hs19 c_m_0
  replace c_m_1 := cell_later hs19 c_m_1
  replace c_m_2 := cell_later hs19 c_m_2
  replace c_p1_0 := cell_later hs19 c_p1_0
  replace c_p1_1 := cell_later hs19 c_p1_1
  replace c_p2_0 := cell_later hs19 c_p2_0
  replace c_p2_1 := cell_later hs19 c_p2_1
  replace c_p3_0 := cell_later hs19 c_p3_0
  replace c_p3_1 := cell_later hs19 c_p3_1
  replace c_x_0 := cell_later hs19 c_x_0
  replace c_x_1 := cell_later hs19 c_x_1
  replace c_y_0 := cell_later hs19 c_y_0
  replace c_y_1 := cell_later hs19 c_y_1
  replace c_z_0 := cell_later hs19 c_z_0
  replace c_z_1 := cell_later hs19 c_z_1
  clear z_m
  have z_m := World.block_lt_of_cell? _ _ c_m_0
  clear z_p1
  have z_p1 := World.block_lt_of_cell? _ _ c_p1_0
  clear z_p2
  have z_p2 := World.block_lt_of_cell? _ _ c_p2_0
  clear z_p3
  have z_p3 := World.block_lt_of_cell? _ _ c_p3_0
  clear z_x
  have z_x := World.block_lt_of_cell? _ _ c_x_0
  clear z_y
  have z_y := World.block_lt_of_cell? _ _ c_y_0
  clear z_z
  have z_z := World.block_lt_of_cell? _ _ c_z_0
  have hB19 := below_two hB18 hs19
  clear hB18 hs19
  obtain ⟨b1, o1, c1, rfl, hc1, hr1⟩ := prs_open hu1 hP1.out
  rw [HLN1.out] at hc1 hr1 ⊢
  have HR1 := Lib.hid hr1
  have hl1 : e1 ≤ 1000000 := by obtain ⟨_, _, _, h, _⟩ := hr1; rw [HLN1.out] at h; exact h
  have HC1 := Lib.hid hc1
  clear hu1 hr1 hc1
  go_wp2_with fail
  refine (cut_cap HIm.out HCT2.out).mono ?_
  rintro e w20 ⟨⟨u2, rfl, hu2⟩, hb20⟩
  have hs20 := hb20
  replace HIm := Lib.hid (HIm.out.later hs20)
  replace HR1 := Lib.hid (HR1.out.later hs20)
  replace c_m_0 := cell_later hs20 c_m_0
  replace c_m_1 := cell_later hs20 c_m_1
  replace c_m_2 := cell_later hs20 c_m_2
  replace c_p1_0 := cell_later hs20 c_p1_0
  replace c_p1_1 := cell_later hs20 c_p1_1
  replace c_p2_0 := cell_later hs20 c_p2_0
  replace c_p2_1 := cell_later hs20 c_p2_1
  replace c_p3_0 := cell_later hs20 c_p3_0
  replace c_p3_1 := cell_later hs20 c_p3_1
  replace c_x_0 := cell_later hs20 c_x_0
  replace c_x_1 := cell_later hs20 c_x_1
  replace c_y_0 := cell_later hs20 c_y_0
  replace c_y_1 := cell_later hs20 c_y_1
  replace c_z_0 := cell_later hs20 c_z_0
  replace c_z_1 := cell_later hs20 c_z_1
  clear z_m
  have z_m := World.block_lt_of_cell? _ _ c_m_0
  clear z_p1
  have z_p1 := World.block_lt_of_cell? _ _ c_p1_0
  clear z_p2
  have z_p2 := World.block_lt_of_cell? _ _ c_p2_0
  clear z_p3
  have z_p3 := World.block_lt_of_cell? _ _ c_p3_0
  clear z_x
  have z_x := World.block_lt_of_cell? _ _ c_x_0
  clear z_y
  have z_y := World.block_lt_of_cell? _ _ c_y_0
  clear z_z
  have z_z := World.block_lt_of_cell? _ _ c_z_0
  have hB20 := below_two hB19 hs20
  clear hB19 hs20
  obtain ⟨b2, o2, c2, rfl, hc2, hr2⟩ := prs_open hu2 hP2.out
  rw [HLN2.out] at hc2 hr2 ⊢
  have HR2 := Lib.hid hr2
  have hl2 : e2 ≤ 1000000 := by obtain ⟨_, _, _, h, _⟩ := hr2; rw [HLN2.out] at h; exact h
  have HC2 := Lib.hid hc2
  clear hu2 hr2 hc2
  go_wp2_with fail
  refine (cut_cap HIm.out HCT3.out).mono ?_
  rintro e w21 ⟨⟨u3, rfl, hu3⟩, hb21⟩
  have hs21 := hb21
  replace HIm := Lib.hid (HIm.out.later hs21)
  replace HR1 := Lib.hid (HR1.out.later hs21)
  replace HR2 := Lib.hid (HR2.out.later hs21)
  replace c_m_0 := cell_later hs21 c_m_0
  replace c_m_1 := cell_later hs21 c_m_1
  replace c_m_2 := cell_later hs21 c_m_2
  replace c_p1_0 := cell_later hs21 c_p1_0
  replace c_p1_1 := cell_later hs21 c_p1_1
  replace c_p2_0 := cell_later hs21 c_p2_0
  replace c_p2_1 := cell_later hs21 c_p2_1
  replace c_p3_0 := cell_later hs21 c_p3_0
  replace c_p3_1 := cell_later hs21 c_p3_1
  replace c_x_0 := cell_later hs21 c_x_0
  replace c_x_1 := cell_later hs21 c_x_1
  replace c_y_0 := cell_later hs21 c_y_0
  replace c_y_1 := cell_later hs21 c_y_1
  replace c_z_0 := cell_later hs21 c_z_0
  replace c_z_1 := cell_later hs21 c_z_1
  clear z_m
  have z_m := World.block_lt_of_cell? _ _ c_m_0
  clear z_p1
  have z_p1 := World.block_lt_of_cell? _ _ c_p1_0
  clear z_p2
  have z_p2 := World.block_lt_of_cell? _ _ c_p2_0
  clear z_p3
  have z_p3 := World.block_lt_of_cell? _ _ c_p3_0
  clear z_x
  have z_x := World.block_lt_of_cell? _ _ c_x_0
  clear z_y
  have z_y := World.block_lt_of_cell? _ _ c_y_0
  clear z_z
  have z_z := World.block_lt_of_cell? _ _ c_z_0
  have hB21 := below_two hB20 hs21
  clear hB20 hs21
  obtain ⟨b3, o3, c3, rfl, hc3, hr3⟩ := prs_open hu3 hP3.out
  rw [HLN3.out] at hc3 hr3 ⊢
  have HR3 := Lib.hid hr3
  have hl3 : e3 ≤ 1000000 := by obtain ⟨_, _, _, h, _⟩ := hr3; rw [HLN3.out] at h; exact h
  have HC3 := Lib.hid hc3
  clear hu3 hr3 hc3
  go_wp2_with fail
  refine (weight_is HIm.out HWV.out HWE.out).mono ?_
  rintro e w22 ⟨rfl, hb22⟩
  have hs22 := hb22
  replace HIm := Lib.hid (HIm.out.later hs22)
  replace HR1 := Lib.hid (HR1.out.later hs22)
  replace HR2 := Lib.hid (HR2.out.later hs22)
  replace HR3 := Lib.hid (HR3.out.later hs22)
  replace c_m_0 := cell_later hs22 c_m_0
  replace c_m_1 := cell_later hs22 c_m_1
  replace c_m_2 := cell_later hs22 c_m_2
  replace c_p1_0 := cell_later hs22 c_p1_0
  replace c_p1_1 := cell_later hs22 c_p1_1
  replace c_p2_0 := cell_later hs22 c_p2_0
  replace c_p2_1 := cell_later hs22 c_p2_1
  replace c_p3_0 := cell_later hs22 c_p3_0
  replace c_p3_1 := cell_later hs22 c_p3_1
  replace c_x_0 := cell_later hs22 c_x_0
  replace c_x_1 := cell_later hs22 c_x_1
  replace c_y_0 := cell_later hs22 c_y_0
  replace c_y_1 := cell_later hs22 c_y_1
  replace c_z_0 := cell_later hs22 c_z_0
  replace c_z_1 := cell_later hs22 c_z_1
  clear z_m
  have z_m := World.block_lt_of_cell? _ _ c_m_0
  clear z_p1
  have z_p1 := World.block_lt_of_cell? _ _ c_p1_0
  clear z_p2
  have z_p2 := World.block_lt_of_cell? _ _ c_p2_0
  clear z_p3
  have z_p3 := World.block_lt_of_cell? _ _ c_p3_0
  clear z_x
  have z_x := World.block_lt_of_cell? _ _ c_x_0
  clear z_y
  have z_y := World.block_lt_of_cell? _ _ c_y_0
  clear z_z
  have z_z := World.block_lt_of_cell? _ _ c_z_0
  have hB22 := below_two hB21 hs22
  clear hB21 hs22
  clear c_m_0 c_m_1 c_m_2 c_p1_0 c_p1_1 c_p2_0 c_p2_1 c_p3_0 c_p3_1 c_x_0 c_x_1 c_y_0 c_y_1 c_z_0 c_z_1 z_m z_p1 z_p2 z_p3 z_x z_y z_z
  have hnz1 : ((e1 : Int) == 0) = false := beq_eq_false_iff_ne.2 (by omega)
  have hnz2 : ((e2 : Int) == 0) = false := beq_eq_false_iff_ne.2 (by omega)
  by_cases hq : K2 ∈ Met.zb S (Met.grp N D lm)
  · obtain rfl : wv = 2 := by
      obtain ⟨k, hk, e⟩ := Met.zb_mem.1 hq
      rcases HWC.out with ⟨h, _⟩ | ⟨_, _, h⟩ | ⟨_, h, _⟩ | ⟨_, h, _⟩
      · omega
      · exact h
      · exact absurd e (h k hk)
      · exact absurd e (h k hk)
    have HEQ : Hid (L3 = L1 ++ L2) := Lib.hid (by rw [← HL1.out, ← HL2.out, ← HL3.out, ← List.map_append, Met.dif_in hA hB HUP.out hq])
    have HNW1 := Lib.hid (prs_news HR1.out)
    have M1 : Hid True := Lib.hid trivial
    go_wp2_with (first
      | (at_builtin; have m1 := M1; clear M1 m1; refine wpList_append_on _ (by rfl) _ _ 33 rfl w22.heap.size 26 i0 (.agg #[.int .i64 0, .int .i64 0]) 2 16 Try.underlying33 hi hz0 hz1 hz2 rfl (by decide) (.slice none 0 0) 0 [] rfl (World.ownsRow_nil _ _ _ _) ⟨b1, o1, none⟩ e1 c1 (rowP L1) rfl (by rw [rowP_length, HLN1.out]) HNW1.out (rowP_cells _) (by unfold maxLen; omega) (by omega) (Nat.le_refl _) ?_; intro v5 g5 hown5 hg5; simp only [Nat.zero_add, List.nil_append] at hown5; have HB5 := Lib.hid (grown1 hg5); have HOWN5 := Lib.hid hown5; have HNW2 := Lib.hid (prs_news (HR2.out.later HB5.out)); clear hown5 hg5)
      | (at_builtin; have m2 := HOWN5; clear m2; go_must (refine wpList_append_on _ (by rfl) _ _ 33 rfl w22.heap.size 26 i0 (.agg #[.int .i64 0, .int .i64 0]) 2 16 Try.underlying33 hi hz0 hz1 hz2 rfl (by decide) v5 e1 (rowP L1) rfl HOWN5.out ⟨b2, o2, none⟩ e2 c2 (rowP L2) rfl (by rw [rowP_length, HLN2.out]) HNW2.out (rowP_cells _) (by unfold maxLen; omega) (by omega) HB5.out.size ?_); intro v6 g6 hown6 hg6; have HB6 := Lib.hid (grown2 HB5.out HOWN5.out hg6); have HP6 : Hid (Prs g6 v6 (L1 ++ L2)) := Lib.hid (own_prs hown6 (by rw [List.length_append, HLN1.out, HLN2.out]) (rowP_append _ _).symm (by rw [← HEQ.out, HLN3.out]; exact hl3)); clear hown6 hg6 HOWN5)
      | fail)
    refine (ratios_is (HR3.out.later HB6.out) HP6.out (t := true) (decide_eq_true HEQ.out)).mono ?_
    rintro e g7 ⟨rfl, hb7⟩
    have HB7 := below_two (below_two hB22 HB6.out) hb7
    go_wp2
    go_ret
    exact ⟨rfl, HB7⟩
  · have hw2 : ¬ 2 ≤ wv := by
      rcases HWC.out with ⟨h, _⟩ | ⟨_, ⟨k, hk, e⟩, _⟩ | ⟨_, _, _, h⟩ | ⟨_, _, _, h⟩
      · omega
      · exact absurd (Met.zb_mem.2 ⟨k, hk, e⟩) hq
      · omega
      · omega
    have hw3 : decide (2 ≤ wv) = false := decide_eq_false hw2
    obtain ⟨A, u, v, B, t1, t2, t3, u0, u1, v0, v1⟩ := Met.dif_out hA hB HUP.out hq
    have iU : Met.Is (Met.of u DD) u DD := Met.is_of ds1 (by omega) (by omega) (by omega)
    have iV : Met.Is (Met.of v DD) v DD := Met.is_of ds1 (by omega) (by omega) (by omega)
    have iJ : Met.Is (Met.of (u + v) DD) (u + v) DD := Met.is_of ds1 (by omega) (by omega) (by omega)
    obtain ⟨f0, f1⟩ := iU.ad iV (by omega) (by omega) (by omega)
    have f2 := f1.unique iJ
    have g1 := HL1.out
    have g2 := HL2.out
    have g3 := HL3.out
    rw [t1, List.map_append, List.map_cons, List.map_nil] at g1
    rw [t2, List.map_cons] at g2
    rw [t3, List.map_append, List.map_cons] at g3
    generalize A.map (fun x => Met.of x DD) = A' at g1 g3
    generalize B.map (fun x => Met.of x DD) = B' at g2 g3
    obtain ⟨⟨ua, ub⟩, HU⟩ : ∃ X, Hid (Met.of u DD = X) := ⟨_, Lib.hid rfl⟩
    obtain ⟨⟨va, vb⟩, HV⟩ : ∃ X, Hid (Met.of v DD = X) := ⟨_, Lib.hid rfl⟩
    obtain ⟨⟨ja, jb⟩, HJ⟩ : ∃ X, Hid (Met.of (u + v) DD = X) := ⟨_, Lib.hid rfl⟩
    rw [HU.out] at g1 f0 f2
    rw [HV.out] at g2 f0 f2
    rw [HJ.out] at g3 f2
    have HF0 := Lib.hid f0
    have HF2 := Lib.hid f2
    have HG1 := Lib.hid g1
    have HG2 := Lib.hid g2
    have HG3 := Lib.hid g3
    obtain ⟨na, rfl⟩ : ∃ n, e1 = n + 1 := ⟨e1 - 1, by omega⟩
    obtain ⟨nb, rfl⟩ : ∃ n, e2 = n + 1 := ⟨e2 - 1, by omega⟩
    have HA1 : Hid (A'.length = na) := Lib.hid (by have := HLN1.out; rw [← HG1.out] at this; simpa using this)
    have HB1 : Hid (B'.length = nb) := Lib.hid (by have := HLN2.out; rw [← HG2.out] at this; simpa using this)
    clear t1 t2 t3 f0 f1 f2 iU iV iJ g1 g2 g3 u0 u1 v0 v1
    rw [← HG1.out] at HR1
    rw [← HG2.out] at HR2
    have HT1 : Hid (Prs w22 (.slice (some ⟨b1, o1, none⟩) na c1) A') := Lib.hid (by have := prs_take (c' := c1) HR1.out; rw [HA1.out] at this; exact this)
    obtain ⟨y0, y1⟩ := prs_at (i := na) (x := (ua, ub)) HR1.out (by rw [List.getElem?_append_right (by rw [HA1.out]; exact Nat.le_refl _), HA1.out]; simp)
    obtain ⟨x0', x1'⟩ : w22.cell? ⟨b2, o2, none⟩ = some (.int .i64 va) ∧ w22.cell? ⟨b2, o2 + 1, none⟩ = some (.int .i64 vb) := by
      have h := prs_at (i := 0) (x := (va, vb)) HR2.out rfl
      exact ⟨by simpa using h.1, by simpa using h.2⟩
    dsimp only at y0 y1
    have hnz3 : ((na : Int) + 1 == 0) = false := beq_eq_false_iff_ne.2 (by omega)
    have hnz4 : ((nb : Int) + 1 == 0) = false := beq_eq_false_iff_ne.2 (by omega)
    have zy := World.block_lt_of_cell? _ _ y0
    have zx := World.block_lt_of_cell? _ _ x0'
    simp only at zy zx
    have hnl : na ≤ 1000000 := by omega
    have hx1 : (0 : Int) ≤ (na : Int) := by omega
    have hx2 : (na : Int) < (na : Int) + 1 := by omega
    have hx3 : IntKind.i64.wrap ((na : Int) + 1 - 1) = (na : Int) := by rw [show (na : Int) + 1 - 1 = (na : Int) by omega]; exact IntWalk.i64_in _ (by omega)
    have hx4 : IntKind.i64.wrap (na : Int) = (na : Int) := IntWalk.i64_in _ (by omega)
    have hx5 : (na : Int) + 1 - 1 = (na : Int) := by omega
    have hx6 : (0 : Int) ≤ (nb : Int) := by omega
    have hx7 : (0 : Int) < (nb : Int) + 1 := by omega
    go_upto_region 21 with fail
    have hBr0 : Below w22.heap.size w22 w22 := Below.refl _ _
    go_cut [28, 29] (fun p e wx => AtR ja jb w22 p wx ∧ e = .int .i64 0)
    case first =>
      have RA : Hid (∀ u, Below (w22.alloc (.cells #[.int .i64 0, .int .i64 0] 26)).drew.heap.size (w22.alloc (.cells #[.int .i64 0, .int .i64 0] 26)).drew u → u.cell? ⟨w22.heap.size, 0, none⟩ = some (.int .i64 0) ∧ u.cell? ⟨w22.heap.size, 1, none⟩ = some (.int .i64 0) ∧ u.frozen? ⟨w22.heap.size, 0, none⟩ = false ∧ u.frozen? ⟨w22.heap.size, 1, none⟩ = false ∧ Below w22.heap.size w22 u) := Lib.hid (fun u hq => by
        have e0 : (w22.alloc (.cells #[.int .i64 0, .int .i64 0] 26)).drew.cell? ⟨w22.heap.size, 0, none⟩ = some (.int .i64 0) := cell_drew (by go_simp)
        have e1 : (w22.alloc (.cells #[.int .i64 0, .int .i64 0] 26)).drew.cell? ⟨w22.heap.size, 1, none⟩ = some (.int .i64 0) := cell_drew (by go_simp)
        exact ⟨cell_later hq e0, cell_later hq e1, frozen_later hq e0 (frozen_drew (by go_simp)), frozen_later hq e1 (frozen_drew (by go_simp)), below_two (alloc_below hBr0).drew hq⟩)
      have RB : Hid (∀ u, Below w22.drew.heap.size w22.drew u → u.cell? ⟨b1, o1 + na * 2, none⟩ = some (.int .i64 ua) ∧ u.cell? ⟨b1, o1 + na * 2 + 1, none⟩ = some (.int .i64 ub) ∧ u.cell? ⟨b2, o2, none⟩ = some (.int .i64 va) ∧ u.cell? ⟨b2, o2 + 1, none⟩ = some (.int .i64 vb) ∧ Below w22.heap.size w22 u) := Lib.hid (fun u hq => ⟨cell_later hq (cell_drew y0), cell_later hq (cell_drew y1), cell_later hq (cell_drew x0'), cell_later hq (cell_drew x1'), below_two hBr0.drew hq⟩)
      go_region_held3 (fun w' => w'.cell? ⟨b1, o1 + na * 2, none⟩ = some (.int .i64 ua) ∧ w'.cell? ⟨b1, o1 + na * 2 + 1, none⟩ = some (.int .i64 ub) ∧ w'.cell? ⟨b2, o2, none⟩ = some (.int .i64 va) ∧ w'.cell? ⟨b2, o2 + 1, none⟩ = some (.int .i64 vb) ∧ Below w22.heap.size w22 w')
        (((try go_split_ands); refine ⟨?_, ?_, ?_, ?_, ?_⟩ <;> first | with_reducible assumption | (with_reducible refine cell_later hq ?_; with_reducible assumption) | (with_reducible refine below_two ?_ hq; with_reducible assumption) | (with_reducible refine alloc_cell ?_; with_reducible assumption) | (with_reducible refine alloc_below ?_; with_reducible assumption) | (with_reducible refine set_far ?_ (set_far ?_ ?_); omega; omega; with_reducible assumption) | (with_reducible refine put2_below ?_ ?_; with_reducible assumption; omega) | with_reducible exact cell_drew y0 | with_reducible exact cell_drew y1 | with_reducible exact cell_drew x0' | with_reducible exact cell_drew x1' | with_reducible exact hBr0.drew | with_reducible exact cell_drew (alloc_cell y0) | with_reducible exact cell_drew (alloc_cell y1) | with_reducible exact cell_drew (alloc_cell x0') | with_reducible exact cell_drew (alloc_cell x1') | with_reducible exact (alloc_below hBr0).drew))
        (first
          | (go_at_call 31; first
              | (with_reducible refine (addL HF2.out HF0.out w22.drew).mono ?_; rintro ed u5 ⟨rfl, hq⟩; obtain ⟨n_y0, n_y1, n_x0', n_x1', hb5⟩ := RB.out _ hq)
              | (with_reducible refine (addL HF2.out HF0.out (w22.alloc (.cells #[.int .i64 0, .int .i64 0] 26)).drew).mono ?_; rintro ed u5 ⟨rfl, hq⟩; obtain ⟨r_0, r_1, f_0, f_1, hb5⟩ := RA.out _ hq)))
      all_goals (first
        | (go_wp2_with fail; go_meet; case rel => exact ⟨⟨_, rfl, (put2_of r_0 r_1).1, (put2_of r_0 r_1).2, put2_below hb5 (by omega)⟩, rfl⟩)
        | (go_wp2_with fail; go_meet; case rel => exact ⟨⟨_, rfl, by go_simp, by go_simp, alloc_below hb5⟩, rfl⟩))
    case rest =>
      obtain ⟨⟨A1, rfl, xc0, xc1, hBx⟩, rfl⟩ := hcut
      obtain ⟨wj, hwo⟩ : ∃ x, x = wc := ⟨_, rfl⟩
      subst hwo
      have HT2 := Lib.hid (HT1.out.later hBx)
      have HRc2 := Lib.hid (HR2.out.later hBx)
      have HRc3 := Lib.hid (HR3.out.later hBx)
      have hBc := below_two hB22 hBx
      have zA := World.block_lt_of_cell? _ _ xc0
      simp only at zA
      have hx8 : (na : Int) ≤ (c1 : Int) := by have := HC1.out; omega
      have hx9 : na ≤ c1 := by have := HC1.out; omega
      have HN0 := Lib.hid (prs_news HT2.out)
      clear HT1 HR1 HR2 HR3 y0 y1 x0' x1' zy zx hBx hBr0
      have HB0 : Hid (Below wj.heap.size wj wj) := Lib.hid (Below.refl _ _)
      have MT : Hid True := Lib.hid trivial
      have HSD : Hid (wj.drew.heap.size = wj.heap.size) := Lib.hid rfl
      go_upto_region 22 with fail
      go_cut [30] (fun p wx => wx.ownsRow wj.heap.size 26 2 p (na + 1) (rowP (A' ++ [(ja, jb)])) ∧ Below wj.heap.size wj wx)
      case first =>
        go_region_law (first
          | (have mt := MT; clear MT mt; refine step_append_at _ rfl _ _ 33 rfl wj.heap.size 26 i0 (.agg #[.int .i64 0, .int .i64 0]) 2 16 Try.underlying33 hi hz0 hz1 hz2 rfl (by decide) (.slice none 0 0) 0 [] (by kernel_rfl) (World.ownsRow_nil _ _ _ _) ⟨b1, o1, none⟩ na c1 (rowP A') (by kernel_rfl) (by rw [rowP_length, HA1.out]) (fun j u h => cell_later (by with_reducible first | exact HB0.out | exact HB0.out.drew | exact alloc_below HB0.out | exact alloc_below HB0.out.drew | exact (alloc_below HB0.out).drew) (HN0.out j u h)) (rowP_cells _) (by unfold maxLen; omega) (by omega) (Below.size (w := wj) (by with_reducible first | exact HB0.out | exact HB0.out.drew | exact alloc_below HB0.out | exact alloc_below HB0.out.drew | exact (alloc_below HB0.out).drew)) ?_; intro v7 g7 hown7 hg7; simp only [Nat.zero_add, List.nil_append] at hown7; have HJ7 : Hid (∀ (j : Nat) (u : Value), [Value.int .i64 ja, Value.int .i64 jb][j]? = some u → g7.cell? (Addr.add ⟨wj.heap.size, 0, none⟩ j) = some u) := Lib.hid (fun j u h => cell_later (grown1 hg7) (by with_reducible first | exact cells2_new wj.drew 26 _ _ HSD.out j u h | exact cell_drew (cells2_new wj 26 _ _ rfl j u h) | exact cells2_new wj 26 _ _ rfl j u h)); have HB7 : Hid (Below wj.heap.size wj g7) := Lib.hid (below_two (by with_reducible first | exact HB0.out | exact HB0.out.drew | exact alloc_below HB0.out | exact alloc_below HB0.out.drew | exact (alloc_below HB0.out).drew) (grown1 hg7)); have HOWN7 := Lib.hid hown7; clear hown7 hg7)
          | (have mt := MT; clear MT mt; refine step_append_at _ rfl _ _ 33 rfl wj.heap.size 26 i0 (.agg #[.int .i64 0, .int .i64 0]) 2 16 Try.underlying33 hi hz0 hz1 hz2 rfl (by decide) (.slice none 0 0) 0 [] (by kernel_rfl) (World.ownsRow_nil _ _ _ _) ⟨b1, o1, none⟩ na c1 (rowP A') (by kernel_rfl) (by rw [rowP_length, HA1.out]) (fun j u h => cell_later (by with_reducible first | exact HB0.out | exact HB0.out.drew | exact alloc_below HB0.out | exact alloc_below HB0.out.drew | exact (alloc_below HB0.out).drew) (HN0.out j u h)) (rowP_cells _) (by unfold maxLen; omega) (by omega) (Below.size (w := wj) (by with_reducible first | exact HB0.out | exact HB0.out.drew | exact alloc_below HB0.out | exact alloc_below HB0.out.drew | exact (alloc_below HB0.out).drew)) ?_; intro v7 g7 hown7 hg7; simp only [Nat.zero_add, List.nil_append] at hown7; have HB7 : Hid (Below wj.heap.size wj g7) := Lib.hid (below_two (by with_reducible first | exact HB0.out | exact HB0.out.drew | exact alloc_below HB0.out | exact alloc_below HB0.out.drew | exact (alloc_below HB0.out).drew) (grown1 hg7)); have n_x0 := cell_later HB7.out xc0; have n_x1 := cell_later HB7.out xc1; have HOWN7 := Lib.hid hown7; clear hown7 hg7)
          | (have mj := HJ7; clear mj; refine step_append_at _ rfl _ _ 33 rfl wj.heap.size 26 i0 (.agg #[.int .i64 0, .int .i64 0]) 2 16 Try.underlying33 hi hz0 hz1 hz2 rfl (by decide) v7 na (rowP A') (by kernel_rfl) (own_later HOWN7.out (show Below g7.heap.size g7 _ by with_reducible first | exact Below.refl _ _ | exact alloc_below (Below.refl _ _) | exact (Below.refl _ _).drew | exact (alloc_below (Below.refl _ _)).drew)) ⟨wj.heap.size, 0, none⟩ 1 1 [.int .i64 ja, .int .i64 jb] (by kernel_rfl) rfl (fun j u h => cell_later (show Below g7.heap.size g7 _ by with_reducible first | exact Below.refl _ _ | exact alloc_below (Below.refl _ _) | exact (Below.refl _ _).drew | exact (alloc_below (Below.refl _ _)).drew) (HJ7.out j u h)) (one_cell2 _ _) (by unfold maxLen; omega) (by omega) (Nat.le_trans HB7.out.size (Below.size (w := g7) (show Below g7.heap.size g7 _ by with_reducible first | exact Below.refl _ _ | exact alloc_below (Below.refl _ _) | exact (Below.refl _ _).drew | exact (alloc_below (Below.refl _ _)).drew))) ?_; intro v8 g8 hown8 hg8; have HB8 := Lib.hid (below_own (show Below g7.heap.size g7 _ by with_reducible first | exact Below.refl _ _ | exact alloc_below (Below.refl _ _) | exact (Below.refl _ _).drew | exact (alloc_below (Below.refl _ _)).drew) HB7.out HOWN7.out hg8); have HOWN8 := Lib.hid hown8; clear hown8 hg8)
          | (refine step_append_at _ rfl _ _ 33 rfl wj.heap.size 26 i0 (.agg #[.int .i64 0, .int .i64 0]) 2 16 Try.underlying33 hi hz0 hz1 hz2 rfl (by decide) v7 na (rowP A') (by kernel_rfl) (own_later HOWN7.out (show Below g7.heap.size g7 _ by with_reducible first | exact Below.refl _ _ | exact alloc_below (Below.refl _ _) | exact (Below.refl _ _).drew | exact (alloc_below (Below.refl _ _)).drew)) ⟨g7.heap.size, 0, none⟩ 1 1 [.int .i64 ja, .int .i64 jb] (by kernel_rfl) rfl (by with_reducible first | exact cells2_new _ _ _ _ rfl | exact fun j u h => cell_drew (cells2_new _ _ _ _ rfl j u h)) (one_cell2 _ _) (by unfold maxLen; omega) (by omega) (Nat.le_trans HB7.out.size (Below.size (w := g7) (show Below g7.heap.size g7 _ by with_reducible first | exact Below.refl _ _ | exact alloc_below (Below.refl _ _) | exact (Below.refl _ _).drew | exact (alloc_below (Below.refl _ _)).drew))) ?_; intro v8 g8 hown8 hg8; have HB8 := Lib.hid (below_own (show Below g7.heap.size g7 _ by with_reducible first | exact Below.refl _ _ | exact alloc_below (Below.refl _ _) | exact (Below.refl _ _).drew | exact (alloc_below (Below.refl _ _)).drew) HB7.out HOWN7.out hg8); have HOWN8 := Lib.hid hown8; clear hown8 hg8))
        all_goals go_wp2_with fail
        all_goals (go_meet; case rel => exact ⟨by rw [rowP_append, rowP_one]; exact HOWN8.out, HB8.out⟩)
      case rest =>
        obtain ⟨hown8, hb8⟩ := hcut
        obtain ⟨wk, hwo⟩ : ∃ x, x = wc := ⟨_, rfl⟩
        subst hwo
        have HOWN8 := Lib.hid hown8
        have HR2k := Lib.hid (HRc2.out.later hb8)
        have HBK := Lib.hid hb8
        clear hown8 hb8 HRc2 HN0 xc0 xc1 zA HT2
        have hc9 : nb + 1 ≤ c2 := HC2.out
        have M1 : Hid True := Lib.hid trivial
        by_cases hc1 : c2 = 1
        · subst hc1
          obtain rfl : nb = 0 := by omega
          have HN9 : Hid (∀ (X : World) (ad : Addr) (j : Nat) (u : Value), (rowP B')[j]? = some u → X.cell? (ad.add j) = some u) := Lib.hid (fun X ad j u h => by rw [List.length_eq_zero_iff.1 HB1.out] at h; simp [rowP] at h)
          go_wp2_with (first
            | (at_builtin; have m1 := M1; clear M1 m1; go_must (refine wpList_append_on _ (by rfl) _ _ 33 rfl wj.heap.size 26 i0 (.agg #[.int .i64 0, .int .i64 0]) 2 16 Try.underlying33 hi hz0 hz1 hz2 rfl (by decide) _ (na + 1) (rowP (A' ++ [(ja, jb)])) rfl HOWN8.out _ _ _ (rowP B') rfl (by simp [rowP_length, HB1.out]) (fun j u h => HN9.out _ _ j u h) (rowP_cells _) (by unfold maxLen; omega) (by omega) HBK.out.size ?_); intro v9 g9 hown9 hg9; have HB9 := Lib.hid (HBK.out.grown hg9 HBK.out.size (fun k e => (HOWN8.out.lt k e).1)); have HP9 : Hid (Prs g9 v9 (A' ++ [(ja, jb)] ++ B')) := Lib.hid (own_prs hown9 (by rw [List.length_append, List.length_append, HA1.out, HB1.out]; rfl) (rowP_append _ _).symm (by rw [List.append_assoc, List.singleton_append, HG3.out, HLN3.out]; exact hl3)); clear hown9 hg9 HOWN8)
            | fail)
          refine (ratios_is (HRc3.out.later HB9.out) HP9.out (t := true) (decide_eq_true (by rw [List.append_assoc, List.singleton_append]; exact HG3.out.symm))).mono ?_
          rintro e g10 ⟨rfl, hb10⟩
          have HB10 := below_two (below_two hBc HB9.out) hb10
          go_wp2
          go_ret
          exact ⟨rfl, HB10⟩
        · obtain ⟨cc, rfl⟩ : ∃ cc, c2 = cc + 2 := ⟨c2 - 2, by omega⟩
          have HN9 := Lib.hid (prs_news (prs_tail (c' := cc + 1) HR2k.out))
          go_wp2_with (first
            | (at_builtin; have m1 := M1; clear M1 m1; go_must (refine wpList_append_on _ (by rfl) _ _ 33 rfl wj.heap.size 26 i0 (.agg #[.int .i64 0, .int .i64 0]) 2 16 Try.underlying33 hi hz0 hz1 hz2 rfl (by decide) _ (na + 1) (rowP (A' ++ [(ja, jb)])) rfl HOWN8.out _ _ _ (rowP B') rfl (by simp [rowP_length, HB1.out]) HN9.out (rowP_cells _) (by unfold maxLen; omega) (by omega) HBK.out.size ?_); intro v9 g9 hown9 hg9; have HB9 := Lib.hid (HBK.out.grown hg9 HBK.out.size (fun k e => (HOWN8.out.lt k e).1)); have HP9 : Hid (Prs g9 v9 (A' ++ [(ja, jb)] ++ B')) := Lib.hid (own_prs hown9 (by rw [List.length_append, List.length_append, HA1.out, HB1.out]; rfl) (rowP_append _ _).symm (by rw [List.append_assoc, List.singleton_append, HG3.out, HLN3.out]; exact hl3)); clear hown9 hg9 HOWN8)
            | fail)
          refine (ratios_is (HRc3.out.later HB9.out) HP9.out (t := true) (decide_eq_true (by rw [List.append_assoc, List.singleton_append]; exact HG3.out.symm))).mono ?_
          rintro e g10 ⟨rfl, hb10⟩
          have HB10 := below_two (below_two hBc HB9.out) hb10
          go_wp2
          go_ret
          exact ⟨rfl, HB10⟩

theorem meterParts_calls (a b : Int) (v : Value) (gs : List Int) (gr : Bool) (k1 k2 k3 of_ : Int) (w : World) (hI : Ints w v gs) (ia : Rat.I64 a) (ib : Rat.I64 b) (hgs : ∀ z ∈ gs, Rat.I64 z) (i1 : Rat.I64 k1) (i2 : Rat.I64 k2) (i3 : Rat.I64 k3) (iof : Rat.I64 of_) : LawHolds 8 #[mt a b v, .bool gr, .agg #[.int .i64 k1, .int .i64 k2, .int .i64 k3], .int .i64 of_] w := by
  by_cases hA : mkK (mkN a) k1 of_ < mkK (mkN a) k2 of_
  · by_cases hB : mkK (mkN a) k2 of_ < mkK (mkN a) k3 of_
    · exact meterParts_C a b v gs gr k1 k2 k3 of_ w hI ia ib hgs i1 i2 i3 iof hA hB
    · exact meterParts_B a b v gs gr k1 k2 k3 of_ w hI ia ib hgs i1 i2 i3 iof hA hB
  · exact meterParts_A a b v gs gr k1 k2 k3 of_ w hI ia ib hgs i1 i2 i3 iof hA
end Go.Proofs.Ytlodhfdikglgoaa
