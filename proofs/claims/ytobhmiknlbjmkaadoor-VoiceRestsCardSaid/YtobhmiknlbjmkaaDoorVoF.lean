/-
  The contract of voice's Rests.
-/
import Derived.Test.YtobhmiknlbjmkaaDoorVoSpl
import Derived.Test.YtobhmiknlbjmkaaDoorVoMet
import Derived.Maps.AppendAt
import Derived.Deep.CutBlock
import Derived.Deep.DeepCutAuto
import Derived.OwnWalk
namespace Go.Proofs.YtobhmiknlbjmkaaDoor
open Go.RowKit
open Evt (P3 Ev)

/-- A rest of a value. -/
def restE (q : Spl.Quad) : Ev := ⟨0, [], [], q.1, q.2.1, q.2.2.1, q.2.2.2, [], ⟨#[]⟩⟩
def restM (q : Spl.Quad) : EM := (restE q, .slice none 0 0, .slice none 0 0, .slice none 0 0)
def restsL (f : Nat → Spl.Quad) (k : Nat) : List EM := (List.range k).map fun j => restM (f j)
theorem restsL_succ (f : Nat → Spl.Quad) (k : Nat) : restsL f (k + 1) = restsL f k ++ [restM (f k)] := by unfold restsL; rw [List.range_succ, List.map_append]; rfl
theorem lenE9 : ∀ x : EM, (encE x).length = 9 := fun _ => rfl

theorem infoE9 : (Tryd.prog.info? 51).map (fun i => (i.zero, i.size, i.bytes)) = some (some (.agg #[.int .i64 0, .slice none 0 0, .slice none 0 0, .int .i64 0, .int .i64 0, .int .i64 0, .int .i64 0, .slice none 0 0, .string ⟨#[]⟩]), 9, 128) := by kernel_rfl
theorem cells9_rest (w : World) (t : TypeId) (z : EM) {n : Nat} (hn : w.heap.size = n) : ∀ (jj : Nat) (u : Value), (encE z)[jj]? = some u → (w.alloc (.cells (encE z).toArray t)).cell? (Addr.add ⟨n, 0, none⟩ jj) = some u := by
  subst hn
  intro jj u hu
  rcases jj with _ | _ | _ | _ | _ | _ | _ | _ | _ | jj
  all_goals (simp [encE] at hu)
  all_goals (subst hu; simp [Addr.add, encE])
theorem oneRest (q : Spl.Quad) : ∀ u ∈ encE (restM q), u.oneCell' = true := by
  intro u hu
  simp only [encE, restM, List.mem_cons, List.not_mem_nil, or_false] at hu
  rcases hu with rfl | rfl | rfl | rfl | rfl | rfl | rfl | rfl | rfl <;> rfl

set_option maxRecDepth 100000 in
set_option maxHeartbeats 40000000 in
theorem rests_walk (n d : Int) (v : Value) (gs : List Int) (x y : Int) (f : Nat → Spl.Quad) (k : Nat) (w : World) (hI : Mtr.Ints w v gs) (hR : Spl.Vars w) (hx : Hid (Mtr.lenP n d gs = (x, y))) (hE : Hid (Mtr.lenE n d gs = 0)) (hk : k ≤ 1000000)
    (hS : Hid (∀ w : World, Spl.Vars w → Calls Tryd.prog 37 #[rt x y] w fun ed w' => (∃ u, ed = .returned (.tuple #[u, .int .i64 0]) ∧ Spl.Row w' u f k) ∧ Below w.heap.size w w')) :
    Calls Tryd.prog 20 #[Mtr.mt n d v] w fun ed w' => (∃ u, ed = .returned (.tuple #[.agg #[u], .int .i64 0]) ∧ Evs w' u (restsL f k) ∧ Own w.heap.size u) ∧ Below w.heap.size w w' := by
  have HI := Lib.hid hI
  obtain ⟨pg, cg, rfl, _⟩ := hI
  have hB0 : Below w.heap.size w w := Below.refl _ _
  go_enter Tryd.func20, Tryd.ntmps20
  have HML : Hid (∀ w : World, Mtr.Ints w (.slice pg gs.length cg) gs → Calls Tryd.prog 21 #[Mtr.mt n d (.slice pg gs.length cg)] w fun ed w' => ed = .returned (rv x y 0) ∧ Below w.heap.size w w') := Lib.hid (fun w h => by
    have h1 := Mtr.mlength_any n d _ gs w h
    rw [hx.out, hE.out] at h1
    exact h1)
  go_wp2_with fail
  refine (HML.out _ (HI.out.later ((hB0.alloc hB0.size (.cells #[.int .i64 n, .int .i64 d, .slice pg gs.length cg] 61)).alloc (hB0.alloc hB0.size (.cells #[.int .i64 n, .int .i64 d, .slice pg gs.length cg] 61)).size (.cells #[.slice none 0 0] 26)))).mono ?_
  rintro e w1 ⟨rfl, hb1⟩
  have hs1 : Below w.heap.size w w1 := Below.trans (by repeat (first | exact Below.refl _ _ | refine Below.alloc ?_ (by simp <;> omega) _)) (hb1.mono (by simp <;> omega))
  have c_m_0 : w1.cell? ⟨w.heap.size, 0, none⟩ = some (.int .i64 n) := (hb1.cell (by simp <;> omega)).trans (by go_simp)
  have c_m_1 : w1.cell? ⟨w.heap.size, 1, none⟩ = some (.int .i64 d) := (hb1.cell (by simp <;> omega)).trans (by go_simp)
  have c_m_2 : w1.cell? ⟨w.heap.size, 2, none⟩ = some (.slice pg gs.length cg) := (hb1.cell (by simp <;> omega)).trans (by go_simp)
  have c_r_0 : w1.cell? ⟨w.heap.size + 1, 0, none⟩ = some (.slice none 0 0) := (hb1.cell (by simp <;> omega)).trans (by go_simp)
  have f_r_0 : w1.frozen? ⟨w.heap.size + 1, 0, none⟩ = false := (hb1.frozen (by simp <;> omega)).trans (by go_simp)
  have z_m : w.heap.size < _ := World.block_lt_of_cell? _ _ c_m_0
  have z_r : w.heap.size + 1 < _ := World.block_lt_of_cell? _ _ c_r_0
  have hB1 := below_two hB0 hs1
  clear hB0 hs1 hb1
  go_wp2_with fail
  refine (hS.out _ (hR.below (hB1.alloc hB1.size (.cells #[.int .i64 x, .int .i64 y] 36)))).mono ?_
  rintro e w2 ⟨⟨u, rfl, hrow⟩, hb2⟩
  have y2_m := z_m
  have y2_r := z_r
  have hs2 : Below w1.heap.size w1 w2 := Below.trans (by repeat (first | exact Below.refl _ _ | refine Below.alloc ?_ (by simp <;> omega) _)) (hb2.mono (by simp <;> omega))
  replace c_m_0 := cell_later hs2 c_m_0
  replace c_m_1 := cell_later hs2 c_m_1
  replace c_m_2 := cell_later hs2 c_m_2
  replace f_r_0 := frozen_later hs2 c_r_0 f_r_0
  replace c_r_0 := cell_later hs2 c_r_0
  have c_l_0 : w2.cell? ⟨w1.heap.size, 0, none⟩ = some (.int .i64 x) := (hb2.cell (by simp <;> omega)).trans (by go_simp)
  have c_l_1 : w2.cell? ⟨w1.heap.size, 1, none⟩ = some (.int .i64 y) := (hb2.cell (by simp <;> omega)).trans (by go_simp)
  have z_l : w1.heap.size < _ := World.block_lt_of_cell? _ _ c_l_0
  clear z_m
  have z_m : w.heap.size < _ := World.block_lt_of_cell? _ _ c_m_0
  clear z_r
  have z_r : w.heap.size + 1 < _ := World.block_lt_of_cell? _ _ c_r_0
  have hB2 := below_two hB1 hs2
  clear hB1 hs2 hb2
  have hBw2 := Lib.hid hB2
  have HRW := Lib.hid hrow
  obtain ⟨gq, cq, rfl, _⟩ := hrow
  have k_r_0 := c_r_0
  have kf_r_0 := f_r_0
  have hv3 : Below w2.heap.size w2 (w2.alloc (.cells #[.slice none 0 0] 26)) := (Below.refl _ _).alloc (Nat.le_refl _) _
  go_upto_region 6 with fail
  have hs3 : Below w2.heap.size w2 (w2.alloc (.cells #[.slice none 0 0] 26)) := by repeat (first | exact Below.refl _ _ | refine Below.alloc ?_ (by simp <;> omega) _)
  replace c_m_0 := cell_later hs3 c_m_0
  replace c_m_1 := cell_later hs3 c_m_1
  replace c_m_2 := cell_later hs3 c_m_2
  replace f_r_0 := frozen_later hs3 c_r_0 f_r_0
  replace c_r_0 := cell_later hs3 c_r_0
  replace c_l_0 := cell_later hs3 c_l_0
  replace c_l_1 := cell_later hs3 c_l_1
  have c_v_0 : (w2.alloc (.cells #[.slice none 0 0] 26)).cell? ⟨w2.heap.size, 0, none⟩ = some (.slice none 0 0) := by go_simp
  have f_v_0 : (w2.alloc (.cells #[.slice none 0 0] 26)).frozen? ⟨w2.heap.size, 0, none⟩ = false := by go_simp
  have hB3 := below_two hB2 hs3
  clear hB2 hs3
  have y3_l := z_l
  have y3_m := z_m
  have y3_r := z_r
  generalize (w2.alloc (.cells #[.slice none 0 0] 26)) = w3 at *
  clear z_l
  have z_l : w1.heap.size < _ := World.block_lt_of_cell? _ _ c_l_0
  clear z_m
  have z_m : w.heap.size < _ := World.block_lt_of_cell? _ _ c_m_0
  clear z_r
  have z_r : w.heap.size + 1 < _ := World.block_lt_of_cell? _ _ c_r_0
  have z_v : w2.heap.size < _ := World.block_lt_of_cell? _ _ c_v_0
  obtain ⟨i0, hi, hz0, hz1, hz2⟩ := info_parts infoE9
  clear c_m_0 c_m_1 c_m_2 c_l_0 c_l_1 c_r_0 f_r_0
  have hB2 : Below w.heap.size w w2 := hBw2.out
  go_wp2
  go_loopw [26] (fun i wr => ∃ (j : Nat) (u : Value), j ≤ k ∧ i = .int .i64 (j : Int) ∧ wr.ownsRow w3.heap.size 51 9 u j ((restsL f j).flatMap encE) ∧ wr.cell? ⟨w2.heap.size, 0, none⟩ = some u ∧ wr.frozen? ⟨w2.heap.size, 0, none⟩ = false ∧ w3.heap.size ≤ wr.heap.size ∧ Below w2.heap.size w2 wr) (fun i _ => k - (intOf i).toNat)
  case atStart => exact ⟨0, _, Nat.zero_le _, rfl, World.ownsRow_nil _ _ _ _, c_v_0, f_v_0, Nat.le_refl _, hv3⟩
  case round =>
    obtain ⟨j, u, hj, rfl, hown, hc, hf, hsz, hBv⟩ := hrel
    obtain ⟨pu, cu, rfl⟩ := own_shape3 hown
    have HO := Lib.hid hown
    clear hown c_v_0 f_v_0 hv3
    have zv : w2.heap.size < wr.heap.size := World.block_lt_of_cell? _ _ hc
    by_cases hlt : j < k
    · obtain ⟨g, cg2, eg, hrow⟩ := HRW.out.later hBv
      cases eg
      obtain ⟨h0, h1, h2, h3⟩ := hrow j hlt
      clear hrow
      have hltI : (j : Int) < (k : Int) := by omega
      have zg : gq < wr.heap.size := World.block_lt_of_cell? _ _ h0
      obtain ⟨⟨q0, q1, q2, q3⟩, hfj⟩ : ∃ q, f j = q := ⟨_, rfl⟩
      rw [hfj] at h0 h1 h2 h3
      have HFJ := Lib.hid hfj
      clear hfj
      dsimp only at h0 h1 h2 h3
      go_wp2_with (first
        | (at_builtin; refine wpList_append_own _ rfl _ _ 24 rfl w3.heap.size 51 i0 (.agg #[.int .i64 0, .slice none 0 0, .slice none 0 0, .int .i64 0, .int .i64 0, .int .i64 0, .int .i64 0, .slice none 0 0, .string ⟨#[]⟩]) 9 128 Tryd.underlying24 hi hz0 hz1 hz2 rfl (by decide) _ _ _ rfl ((HO.out.alloc _).alloc _) ⟨wr.heap.size + 1, 0, none⟩ 1 1 (encE (restM (q0, q1, q2, q3))) rfl rfl (cells9_rest _ _ (restM (q0, q1, q2, q3)) (by simp)) (oneRest _) (by unfold maxLen; omega) (by omega) (by simp; omega) ?_; intro v' w4 hown4 hgrow _; have hb4 := pushed_below (HO.out.alloc (.cells #[.int .i64 q0, .int .i64 q1, .int .i64 q2, .int .i64 q3] 49)) (Below.refl w3.heap.size (wr.alloc (.cells #[.int .i64 q0, .int .i64 q1, .int .i64 q2, .int .i64 q3] 49))) (by simp; omega) hgrow; have ha := (hb4.cell (p := ⟨w2.heap.size, 0, none⟩) z_v).trans (alloc_cell hc); have hg := (hb4.frozen (p := ⟨w2.heap.size, 0, none⟩) z_v).trans (alloc_frozen hc hf); obtain ⟨pn, cn, rfl⟩ := own_shape3 hown4; have HN := Lib.hid hown4; have HB4 := Lib.hid hb4; clear hown4 hgrow hb4)
        | fail)
      have hs4 := HB4.out.size
      have hB4 : Below w2.heap.size w2 w4 := (alloc_below hBv).trans (HB4.out.mono (by omega))
      go_wp2
      go_roundw
      case rel => exact ⟨j + 1, _, by omega, by go_num, own_set (by rw [restsL_succ, List.flatMap_append, HFJ.out]; simpa using HN.out) z_v, set_same (held_of ha), set_frozen hg, by simp at hs4 ⊢; omega, set1_below hB4 (Nat.le_refl _)⟩
      case measure => simp [intOf]; omega
    · obtain rfl : j = k := by omega
      have hge : ¬ (j : Int) < (j : Int) := by omega
      have d_r := cell_later hBv k_r_0
      have e_r := frozen_later hBv k_r_0 kf_r_0
      have hm : (wr.setCell ⟨w.heap.size + 1, 0, none⟩ (.slice pu j cu)).cell? ⟨w.heap.size + 1, 0, none⟩ = some (.slice pu j cu) := set_same (held_of d_r)
      have HOO := Lib.hid (own_row HO.out)
      have HRS : Hid (Sl 9 encE wr (.slice pu j cu) (restsL f j)) := Lib.hid (row_sl lenE9 (by unfold restsL; simp) (by unfold restsL; simp; omega) HO.out)
      go_wp2
      exact bodyPost_ret (v := .tuple #[.agg #[.slice pu j cu], .int .i64 0]) (by simp [results, Tryd.results20, go_sem, hm]) rfl ⟨⟨_, rfl, ⟨HRS.out.set HOO.out z_r, fun y hy => by
        obtain ⟨t, _, e⟩ := List.mem_map.1 hy
        subst e
        exact ⟨Sl.none _ _ _, Sl.none _ _ _, Sl.none _ _ _, by show (0 : Nat) ≤ _; omega⟩⟩, HOO.out.mono (by omega)⟩, set1_below (below_two hB2 hBv) (by omega)⟩

set_option maxRecDepth 100000 in
set_option maxHeartbeats 40000000 in
theorem rests_no (n d : Int) (v : Value) (gs : List Int) (w : World) (hI : Mtr.Ints w v gs) (hm : Met.right n d gs = false) :
    Calls Tryd.prog 20 #[Mtr.mt n d v] w fun ed w' => ed = .returned (.tuple #[.agg #[.slice none 0 0], .int .i64 50]) ∧ Below w.heap.size w w' := by
  have HI := Lib.hid hI
  obtain ⟨pg, cg, rfl, _⟩ := hI
  have hB0 : Below w.heap.size w w := Below.refl _ _
  go_enter Tryd.func20, Tryd.ntmps20
  have HML : Hid (∀ w : World, Mtr.Ints w (.slice pg gs.length cg) gs → Calls Tryd.prog 21 #[Mtr.mt n d (.slice pg gs.length cg)] w fun ed w' => ed = .returned (rv 0 0 50) ∧ Below w.heap.size w w') := Lib.hid (fun w h => by
    have h1 := Mtr.mlength_any n d _ gs w h
    have e1 : Mtr.lenP n d gs = (0, 0) := by unfold Mtr.lenP; rw [hm]; rfl
    have e2 : Mtr.lenE n d gs = 50 := by unfold Mtr.lenE; rw [hm]; rfl
    rw [e1, e2] at h1
    exact h1)
  go_wp2_with fail
  refine (HML.out _ (HI.out.later ((hB0.alloc hB0.size (.cells #[.int .i64 n, .int .i64 d, .slice pg gs.length cg] 61)).alloc (hB0.alloc hB0.size (.cells #[.int .i64 n, .int .i64 d, .slice pg gs.length cg] 61)).size (.cells #[.slice none 0 0] 26)))).mono ?_
  rintro e w1 ⟨rfl, hb1⟩
  have hs1 : Below w.heap.size w w1 := Below.trans (by repeat (first | exact Below.refl _ _ | refine Below.alloc ?_ (by simp <;> omega) _)) (hb1.mono (by simp <;> omega))
  have c_m_0 : w1.cell? ⟨w.heap.size, 0, none⟩ = some (.int .i64 n) := (hb1.cell (by simp <;> omega)).trans (by go_simp)
  have c_m_1 : w1.cell? ⟨w.heap.size, 1, none⟩ = some (.int .i64 d) := (hb1.cell (by simp <;> omega)).trans (by go_simp)
  have c_m_2 : w1.cell? ⟨w.heap.size, 2, none⟩ = some (.slice pg gs.length cg) := (hb1.cell (by simp <;> omega)).trans (by go_simp)
  have c_r_0 : w1.cell? ⟨w.heap.size + 1, 0, none⟩ = some (.slice none 0 0) := (hb1.cell (by simp <;> omega)).trans (by go_simp)
  have f_r_0 : w1.frozen? ⟨w.heap.size + 1, 0, none⟩ = false := (hb1.frozen (by simp <;> omega)).trans (by go_simp)
  have z_m : w.heap.size < _ := World.block_lt_of_cell? _ _ c_m_0
  have z_r : w.heap.size + 1 < _ := World.block_lt_of_cell? _ _ c_r_0
  have hB1 := below_two hB0 hs1
  clear hB0 hs1 hb1
  have hm2 : (w1.setCell ⟨w.heap.size + 1, 0, none⟩ (.slice none 0 0)).cell? ⟨w.heap.size + 1, 0, none⟩ = some (.slice none 0 0) := set_same (held_of c_r_0)
  go_wp2
  exact bodyPost_ret (v := .tuple #[.agg #[.slice none 0 0], .int .i64 50]) (by simp [results, Tryd.results20, go_sem, alloc_cell hm2]) rfl ⟨rfl, alloc_below (set1_below hB1 (by omega))⟩

theorem mtr_ints {W : World} {v : Value} {gs : List Int} (h : Ints W v gs) : Mtr.Ints W v gs := by
  obtain ⟨p, cap, rfl, hl, hc, hx⟩ := h
  refine ⟨p, cap, rfl, hl, fun i x hi => ?_⟩
  obtain ⟨b, o, e, c⟩ := hx i x hi
  exact ⟨b, o, e, by have := c 0 _ rfl; simpa using this⟩

/-- Rests of a right meter: the values of its length's split. -/
theorem rests_is {n d : Int} {gs : List Int} {x y : Int} {i k : Nat} (hr : Met.right n d gs = true) (ho : Met.of n d = (x, y)) (hi : i < 4) (h : Spl.Val.spK x y = i) (hk : Val.Fills (Val.uI x y i) k) (hk2 : k ≤ 1000000) (v : Value) (w : World) (hI : Ints w v gs) (hR : Spl.Vars w) :
    Calls Tryd.prog 20 #[Mtr.mt n d v] w fun ed w' => (∃ u, ed = .returned (.tuple #[.agg #[u], .int .i64 0]) ∧ Evs w' u (restsL (Spl.prt (Val.uI x y i) (Val.kN i) (Val.kE i)) k) ∧ Own w.heap.size u) ∧ Below w.heap.size w w' :=
  rests_walk n d v gs x y (Spl.prt (Val.uI x y i) (Val.kN i) (Val.kE i)) k w (mtr_ints hI) hR (Lib.hid (by unfold Mtr.lenP; rw [hr]; exact ho)) (Lib.hid (by unfold Mtr.lenE; rw [hr]; rfl)) hk2 (Lib.hid (fun w hR => Spl.split_kind hi h hk w hR))
end Go.Proofs.YtobhmiknlbjmkaaDoor
