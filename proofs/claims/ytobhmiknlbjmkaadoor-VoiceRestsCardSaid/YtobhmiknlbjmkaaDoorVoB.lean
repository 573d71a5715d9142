/-
  The contracts of voice's wrong, Check, Same, and of slices.IndexFunc, EqualFunc.
-/
import Derived.Test.YtobhmiknlbjmkaaDoorVoA
import Derived.Test.YtobhmiknlbjmkaaDoorVoEv
import Derived.Deep.CutBlock
import Derived.Deep.DeepCutAuto
namespace Go.Proofs.YtobhmiknlbjmkaaDoor
open Go.RowKit
open Evt (P3 Ev)

set_option maxRecDepth 100000 in
set_option maxHeartbeats 40000000 in
theorem wrong_yes (x : Ev) (vp vt vm : Value) (w : World) (h0 : EvR w vp vt vm x) (hR : Ready w) (hq : Hid (Evt.right x = false)) :
    Calls Tryd.prog 40 #[evv x vp vt vm] w fun ed w' => ed = .returned (.bool true) ∧ Below w.heap.size w w' := by
  obtain ⟨k, ps, ts, b, d, n, e0, ms, str⟩ := x
  have HX0 := Lib.hid h0
  obtain ⟨Pps, Cps, e1, _⟩ := sl_shape h0.ps
  obtain ⟨Pts, Cts, e2, _⟩ := sl_shape h0.ts
  obtain ⟨Pms, Cms, e3, _⟩ := sl_shape h0.ms
  dsimp only at e1 e2 e3
  subst e1 e2 e3
  clear h0
  have hB0 : Below w.heap.size w w := Below.refl _ _
  go_enter Tryd.func40, Tryd.ntmps40
  go_wp2_with fail
  have hR' := hR.below (hB0.alloc hB0.size (.cells #[.int .i64 k, .slice Pps ps.length Cps, .slice Pts ts.length Cts, .int .i64 b, .int .i64 d, .int .i64 n, .int .i64 e0, .slice Pms ms.length Cms, .string str] 51))
  refine (eright_is hq.out _ _ _ _ (HX0.out.later (hB0.alloc hB0.size (.cells #[.int .i64 k, .slice Pps ps.length Cps, .slice Pts ts.length Cts, .int .i64 b, .int .i64 d, .int .i64 n, .int .i64 e0, .slice Pms ms.length Cms, .string str] 51))) hR').mono ?_
  rintro e w1 ⟨rfl, hb1⟩
  clear hR'
  have hs1 : Below w.heap.size w w1 := Below.trans (by repeat (first | exact Below.refl _ _ | refine Below.alloc ?_ (by simp <;> omega) _)) (hb1.mono (by simp <;> omega))
  have c_e_0 : w1.cell? ⟨w.heap.size, 0, none⟩ = some (.int .i64 k) := (hb1.cell (by simp <;> omega)).trans (by go_simp)
  have c_e_1 : w1.cell? ⟨w.heap.size, 1, none⟩ = some (.slice Pps ps.length Cps) := (hb1.cell (by simp <;> omega)).trans (by go_simp)
  have c_e_2 : w1.cell? ⟨w.heap.size, 2, none⟩ = some (.slice Pts ts.length Cts) := (hb1.cell (by simp <;> omega)).trans (by go_simp)
  have c_e_3 : w1.cell? ⟨w.heap.size, 3, none⟩ = some (.int .i64 b) := (hb1.cell (by simp <;> omega)).trans (by go_simp)
  have c_e_4 : w1.cell? ⟨w.heap.size, 4, none⟩ = some (.int .i64 d) := (hb1.cell (by simp <;> omega)).trans (by go_simp)
  have c_e_5 : w1.cell? ⟨w.heap.size, 5, none⟩ = some (.int .i64 n) := (hb1.cell (by simp <;> omega)).trans (by go_simp)
  have c_e_6 : w1.cell? ⟨w.heap.size, 6, none⟩ = some (.int .i64 e0) := (hb1.cell (by simp <;> omega)).trans (by go_simp)
  have c_e_7 : w1.cell? ⟨w.heap.size, 7, none⟩ = some (.slice Pms ms.length Cms) := (hb1.cell (by simp <;> omega)).trans (by go_simp)
  have c_e_8 : w1.cell? ⟨w.heap.size, 8, none⟩ = some (.string str) := (hb1.cell (by simp <;> omega)).trans (by go_simp)
  have z_e : w.heap.size < _ := World.block_lt_of_cell? _ _ c_e_0
  have hB1 := below_two hB0 hs1
  clear hB0 hs1 hb1
  go_wp2
  go_ret
  exact ⟨rfl, hB1⟩

set_option maxRecDepth 100000 in
set_option maxHeartbeats 40000000 in
theorem wrong_no (x : Ev) (vp vt vm : Value) (w : World) (h0 : EvR w vp vt vm x) (hR : Ready w) (hq : Hid (Evt.right x = true)) :
    Calls Tryd.prog 40 #[evv x vp vt vm] w fun ed w' => ed = .returned (.bool false) ∧ Below w.heap.size w w' := by
  obtain ⟨k, ps, ts, b, d, n, e0, ms, str⟩ := x
  have HX0 := Lib.hid h0
  obtain ⟨Pps, Cps, e1, _⟩ := sl_shape h0.ps
  obtain ⟨Pts, Cts, e2, _⟩ := sl_shape h0.ts
  obtain ⟨Pms, Cms, e3, _⟩ := sl_shape h0.ms
  dsimp only at e1 e2 e3
  subst e1 e2 e3
  clear h0
  have hB0 : Below w.heap.size w w := Below.refl _ _
  go_enter Tryd.func40, Tryd.ntmps40
  go_wp2_with fail
  have hR' := hR.below (hB0.alloc hB0.size (.cells #[.int .i64 k, .slice Pps ps.length Cps, .slice Pts ts.length Cts, .int .i64 b, .int .i64 d, .int .i64 n, .int .i64 e0, .slice Pms ms.length Cms, .string str] 51))
  refine (eright_is hq.out _ _ _ _ (HX0.out.later (hB0.alloc hB0.size (.cells #[.int .i64 k, .slice Pps ps.length Cps, .slice Pts ts.length Cts, .int .i64 b, .int .i64 d, .int .i64 n, .int .i64 e0, .slice Pms ms.length Cms, .string str] 51))) hR').mono ?_
  rintro e w1 ⟨rfl, hb1⟩
  clear hR'
  have hs1 : Below w.heap.size w w1 := Below.trans (by repeat (first | exact Below.refl _ _ | refine Below.alloc ?_ (by simp <;> omega) _)) (hb1.mono (by simp <;> omega))
  have c_e_0 : w1.cell? ⟨w.heap.size, 0, none⟩ = some (.int .i64 k) := (hb1.cell (by simp <;> omega)).trans (by go_simp)
  have c_e_1 : w1.cell? ⟨w.heap.size, 1, none⟩ = some (.slice Pps ps.length Cps) := (hb1.cell (by simp <;> omega)).trans (by go_simp)
  have c_e_2 : w1.cell? ⟨w.heap.size, 2, none⟩ = some (.slice Pts ts.length Cts) := (hb1.cell (by simp <;> omega)).trans (by go_simp)
  have c_e_3 : w1.cell? ⟨w.heap.size, 3, none⟩ = some (.int .i64 b) := (hb1.cell (by simp <;> omega)).trans (by go_simp)
  have c_e_4 : w1.cell? ⟨w.heap.size, 4, none⟩ = some (.int .i64 d) := (hb1.cell (by simp <;> omega)).trans (by go_simp)
  have c_e_5 : w1.cell? ⟨w.heap.size, 5, none⟩ = some (.int .i64 n) := (hb1.cell (by simp <;> omega)).trans (by go_simp)
  have c_e_6 : w1.cell? ⟨w.heap.size, 6, none⟩ = some (.int .i64 e0) := (hb1.cell (by simp <;> omega)).trans (by go_simp)
  have c_e_7 : w1.cell? ⟨w.heap.size, 7, none⟩ = some (.slice Pms ms.length Cms) := (hb1.cell (by simp <;> omega)).trans (by go_simp)
  have c_e_8 : w1.cell? ⟨w.heap.size, 8, none⟩ = some (.string str) := (hb1.cell (by simp <;> omega)).trans (by go_simp)
  have z_e : w.heap.size < _ := World.block_lt_of_cell? _ _ c_e_0
  have hB1 := below_two hB0 hs1
  clear hB0 hs1 hb1
  go_wp2
  go_ret
  exact ⟨rfl, hB1⟩

def Voi.num : Option Nat → Int
  | some k => (k : Int)
  | none => -1
set_option maxRecDepth 100000 in
set_option maxHeartbeats 4000000 in
theorem indexF_any (v : Value) (ys : List EM) (w : World) (h : Evs w v ys) (hR : Ready w) :
    Calls Tryd.prog 39 #[v, .func (.func 40) #[] #[]] w fun ed w' => ed = .returned (.int .i64 (Voi.num (Voi.wrongAt (ys.map Prod.fst)))) ∧ Below w.heap.size w w' := by
  have HC := Lib.hid h
  obtain ⟨p0, c0, rfl, hl0⟩ := sl_shape h.row
  clear h
  go_enter Tryd.func39, Tryd.ntmps39
  go_wp2
  go_loopw [8] (fun i wr => AllE (fun y => Evt.right y.1) ys w i wr) (fun i _ => ys.length - (intOf i).toNat)
  case atStart => exact ⟨0, Nat.zero_le _, rfl, rfl, Below.refl _ _⟩
  case round =>
    obtain ⟨q, hq, rfl, he, hB⟩ := hrel
    have HE := Lib.hid he
    clear he
    by_cases hlt : q < ys.length
    · have hltI : (q : Int) < (ys.length : Int) := by omega
      obtain ⟨y, hy⟩ : ∃ y, ys[q]? = some y := ⟨_, List.getElem?_eq_getElem (by omega)⟩
      have hyR := HC.out.each y (List.mem_of_getElem? hy)
      obtain ⟨p1, c1, p2, c2, p3, c3, hys⟩ := evs_shape hyR
      have hat := evs_at HC.out hy
      generalize y.1 = x at *
      subst hys
      obtain ⟨k, ps, ts, b, d, n, e0, ms, str⟩ := x
      obtain ⟨b1, o1, e1, hc0, hc1, hc2, hc3, hc4, hc5, hc6, hc7, hc8⟩ := hat
      cases e1
      dsimp only at hyR hc0 hc1 hc2 hc3 hc4 hc5 hc6 hc7 hc8
      have HY := Lib.hid hy
      have HYR := Lib.hid hyR
      clear hy hyR
      replace hc0 := cell_later hB hc0
      replace hc1 := cell_later hB hc1
      replace hc2 := cell_later hB hc2
      replace hc3 := cell_later hB hc3
      replace hc4 := cell_later hB hc4
      replace hc5 := cell_later hB hc5
      replace hc6 := cell_later hB hc6
      replace hc7 := cell_later hB hc7
      replace hc8 := cell_later hB hc8
      have hR' := hR.below hB
      cases hr : Evt.right (⟨k, ps, ts, b, d, n, e0, ms, str⟩ : Ev)
      · go_wp2_with fail
        refine (wrong_yes _ _ _ _ _ (HYR.out.later hB) hR' (Lib.hid hr)).mono ?_
        rintro e w9 ⟨rfl, hb9⟩
        have HU := Lib.hid (Voi.wrongAt_some (l := ys.map Prod.fst) (k := q) (x := (⟨k, ps, ts, b, d, n, e0, ms, str⟩ : Ev)) (by rw [← List.map_take, List.all_map]; exact HE.out) (by rw [List.getElem?_map, HY.out]; rfl) hr)
        clear hr
        go_wp2
        go_ret
        exact ⟨by rw [HU.out]; rfl, below_two hB hb9⟩
      · go_wp2_with fail
        refine (wrong_no _ _ _ _ _ (HYR.out.later hB) hR' (Lib.hid hr)).mono ?_
        rintro e w9 ⟨rfl, hb9⟩
        have HQ := Lib.hid hr
        clear hr
        go_wp2
        go_roundw
        case rel => exact ⟨q + 1, by omega, by go_num, Evt.all_take HY.out HE.out HQ.out, below_two hB hb9⟩
        case measure => simp [intOf]; omega
    · obtain rfl : q = ys.length := by omega
      have hge : ¬ (ys.length : Int) < (ys.length : Int) := by omega
      have HU := Lib.hid (Voi.wrongAt_none (l := ys.map Prod.fst) (by have h1 := HE.out; rw [List.take_length] at h1; rw [List.all_map]; exact h1))
      go_wp2
      go_ret
      exact ⟨by rw [HU.out]; rfl, hB⟩
theorem indexF_is {ys : List EM} {n : Int} (hn : Voi.num (Voi.wrongAt (ys.map Prod.fst)) = n) (v : Value) (w : World) (h : Evs w v ys) (hR : Ready w) : Calls Tryd.prog 39 #[v, .func (.func 40) #[] #[]] w fun ed w' => ed = .returned (.int .i64 n) ∧ Below w.heap.size w w' := by subst hn; exact indexF_any v ys w h hR

set_option maxRecDepth 100000 in
set_option maxHeartbeats 40000000 in
theorem chk_many (v : Value) (ys : List EM) (w : World) (h : Evs w v ys) (hm : (64 : Int) < (ys.length : Int)) :
    Calls Tryd.prog 22 #[.agg #[v]] w fun ed w' => ed = .returned (.tuple #[.int .i64 64, .int .i64 70]) ∧ Below w.heap.size w w' := by
  have HC := Lib.hid h
  obtain ⟨p0, c0, rfl, hl0⟩ := sl_shape h.row
  clear h
  have hB0 : Below w.heap.size w w := Below.refl _ _
  go_enter Tryd.func22, Tryd.ntmps22
  go_wp2
  go_ret2
  exact ⟨rfl, (Below.refl _ _).alloc (Nat.le_refl _) _⟩

set_option maxRecDepth 100000 in
set_option maxHeartbeats 40000000 in
theorem chk_wrong (v : Value) (ys : List EM) (q : Int) (w : World) (h : Evs w v ys) (hR : Ready w) (hm : ¬ (64 : Int) < (ys.length : Int)) (HW : Hid (Voi.num (Voi.wrongAt (ys.map Prod.fst)) = q)) (hq : 0 ≤ q) :
    Calls Tryd.prog 22 #[.agg #[v]] w fun ed w' => ed = .returned (.tuple #[.int .i64 q, .int .i64 60]) ∧ Below w.heap.size w w' := by
  have HC := Lib.hid h
  obtain ⟨p0, c0, rfl, hl0⟩ := sl_shape h.row
  clear h
  have hB0 : Below w.heap.size w w := Below.refl _ _
  go_enter Tryd.func22, Tryd.ntmps22
  go_wp2_with fail
  have hR' := hR.below (hB0.alloc hB0.size (.cells #[.slice p0 ys.length c0] 26))
  refine (indexF_is HW.out _ _ (HC.out.later (hB0.alloc hB0.size (.cells #[.slice p0 ys.length c0] 26))) hR').mono ?_
  rintro e w1 ⟨rfl, hb1⟩
  clear hR'
  have hs1 : Below w.heap.size w w1 := Below.trans (by repeat (first | exact Below.refl _ _ | refine Below.alloc ?_ (by simp <;> omega) _)) (hb1.mono (by simp <;> omega))
  have c_v_0 : w1.cell? ⟨w.heap.size, 0, none⟩ = some (.slice p0 ys.length c0) := (hb1.cell (by simp <;> omega)).trans (by go_simp)
  have z_v : w.heap.size < _ := World.block_lt_of_cell? _ _ c_v_0
  have hB1 := below_two hB0 hs1
  clear hB0 hs1 hb1
  go_wp2
  go_ret2
  exact ⟨rfl, hB1⟩

set_option maxRecDepth 100000 in
set_option maxHeartbeats 40000000 in
theorem chk_rest (v : Value) (ys : List EM) (w : World) (h : Evs w v ys) (hR : Ready w) (hm : ¬ (64 : Int) < (ys.length : Int)) (HA : Hid ((ys.map Prod.fst).all Evt.right = true)) :
    Calls Tryd.prog 22 #[.agg #[v]] w fun ed w' => ed = .returned (.tuple #[.int .i64 (Voi.chk (ys.map Prod.fst)).1, .int .i64 (Voi.chk (ys.map Prod.fst)).2]) ∧ Below w.heap.size w w' := by
  have HC := Lib.hid h
  obtain ⟨p0, c0, rfl, hl0⟩ := sl_shape h.row
  clear h
  have hB0 : Below w.heap.size w w := Below.refl _ _
  go_enter Tryd.func22, Tryd.ntmps22
  have HW : Hid (Voi.num (Voi.wrongAt (ys.map Prod.fst)) = -1) := Lib.hid (by rw [Voi.wrongAt_none HA.out]; rfl)
  go_wp2_with fail
  have hR' := hR.below (hB0.alloc hB0.size (.cells #[.slice p0 ys.length c0] 26))
  refine (indexF_is HW.out _ _ (HC.out.later (hB0.alloc hB0.size (.cells #[.slice p0 ys.length c0] 26))) hR').mono ?_
  rintro e w1 ⟨rfl, hb1⟩
  clear hR'
  have hs1 : Below w.heap.size w w1 := Below.trans (by repeat (first | exact Below.refl _ _ | refine Below.alloc ?_ (by simp <;> omega) _)) (hb1.mono (by simp <;> omega))
  have c_v_0 : w1.cell? ⟨w.heap.size, 0, none⟩ = some (.slice p0 ys.length c0) := (hb1.cell (by simp <;> omega)).trans (by go_simp)
  have z_v : w.heap.size < _ := World.block_lt_of_cell? _ _ c_v_0
  have hB1 := below_two hB0 hs1
  clear hB0 hs1 hb1
  go_wp2
  go_loopw [20] (fun i wr => ∃ j : Nat, (j = 0 ∨ j + 1 ≤ ys.length) ∧ i = .int .i64 (j : Int) ∧ (∀ (t : Nat) a b, t < j → (ys.map Prod.fst)[t]? = some a → (ys.map Prod.fst)[t + 1]? = some b → Voi.led a b = true) ∧ Below w1.heap.size w1 wr) (fun i _ => ys.length - (intOf i).toNat)
  case atStart => exact ⟨0, Or.inl rfl, rfl, fun t a b ht => absurd ht (Nat.not_lt_zero _), Below.refl _ _⟩
  case round =>
    obtain ⟨j, hj, rfl, he, hB⟩ := hrel
    have HE := Lib.hid he
    clear he
    have hBw := below_two hB1 hB
    have d_v_0 := cell_later hB c_v_0
    by_cases hlt : j + 1 < ys.length
    · have hltS : (j : Int) < (ys.length : Int) - 1 := by omega
      have hw1 : IntKind.i64.wrap ((j : Int) + 1) = (j : Int) + 1 := IntWalk.i64_in _ (by omega)
      have hltI : (j : Int) < (ys.length : Int) := by omega
      have hltN : j < ys.length := by omega
      have hltJ : (j : Int) + 1 < (ys.length : Int) := by omega
      have hn1 : ((j : Int) + 1).toNat = j + 1 := by omega
      have hn0 : 0 ≤ (j : Int) + 1 := by omega
      obtain ⟨y, hy⟩ : ∃ y, ys[j]? = some y := ⟨_, List.getElem?_eq_getElem (by omega)⟩
      have hyR := HC.out.each y (List.mem_of_getElem? hy)
      obtain ⟨p1, c1, p2, c2, p3, c3, hys⟩ := evs_shape hyR
      have hat := evs_at HC.out hy
      generalize y.1 = x at *
      subst hys
      obtain ⟨k, ps, ts, b, d, n, e0, ms, str⟩ := x
      obtain ⟨b1, o1, e1, hc0, hc1, hc2, hc3, hc4, hc5, hc6, hc7, hc8⟩ := hat
      cases e1
      dsimp only at hyR hc0 hc1 hc2 hc3 hc4 hc5 hc6 hc7 hc8
      have HY := Lib.hid hy
      have HYR := Lib.hid hyR
      clear hy hyR
      replace hc0 := cell_later hBw hc0
      replace hc1 := cell_later hBw hc1
      replace hc2 := cell_later hBw hc2
      replace hc3 := cell_later hBw hc3
      replace hc4 := cell_later hBw hc4
      replace hc5 := cell_later hBw hc5
      replace hc6 := cell_later hBw hc6
      replace hc7 := cell_later hBw hc7
      replace hc8 := cell_later hBw hc8
      obtain ⟨yz, hyz⟩ : ∃ y, ys[(j + 1)]? = some y := ⟨_, List.getElem?_eq_getElem (by omega)⟩
      have hyRz := HC.out.each yz (List.mem_of_getElem? hyz)
      obtain ⟨p1z, c1z, p2z, c2z, p3z, c3z, hysz⟩ := evs_shape hyRz
      have hatz := evs_at HC.out hyz
      generalize yz.1 = xz at *
      subst hysz
      obtain ⟨kz, psz, tsz, bz, dz, nz, e0z, msz, strz⟩ := xz
      obtain ⟨b1z, o1z, e1z, hc0z, hc1z, hc2z, hc3z, hc4z, hc5z, hc6z, hc7z, hc8z⟩ := hatz
      cases e1z
      dsimp only at hyRz hc0z hc1z hc2z hc3z hc4z hc5z hc6z hc7z hc8z
      have HYz := Lib.hid hyz
      have HYRz := Lib.hid hyRz
      clear hyz hyRz
      replace hc0z := cell_later hBw hc0z
      replace hc1z := cell_later hBw hc1z
      replace hc2z := cell_later hBw hc2z
      replace hc3z := cell_later hBw hc3z
      replace hc4z := cell_later hBw hc4z
      replace hc5z := cell_later hBw hc5z
      replace hc6z := cell_later hBw hc6z
      replace hc7z := cell_later hBw hc7z
      replace hc8z := cell_later hBw hc8z
      have HTL : Hid (ts.length = ps.length) := Lib.hid ((Evt.right_iff (⟨k, ps, ts, b, d, n, e0, ms, str⟩ : Ev)).1 (List.all_eq_true.1 HA.out _ (List.mem_map.2 ⟨_, List.mem_of_getElem? HY.out, rfl⟩))).len
      have HE1 := Lib.hid (HYR.out.later hBw)
      have HE2 := Lib.hid (HYRz.out.later hBw)
      have HM1 : Hid ((ys.map Prod.fst)[j]? = some (⟨k, ps, ts, b, d, n, e0, ms, str⟩ : Ev)) := Lib.hid (by rw [List.getElem?_map, HY.out]; rfl)
      have HM2 : Hid ((ys.map Prod.fst)[j + 1]? = some (⟨kz, psz, tsz, bz, dz, nz, e0z, msz, strz⟩ : Ev)) := Lib.hid (by rw [List.getElem?_map, HYz.out]; rfl)
      cases hl : Voi.led (⟨k, ps, ts, b, d, n, e0, ms, str⟩ : Ev) (⟨kz, psz, tsz, bz, dz, nz, e0z, msz, strz⟩ : Ev)
      · have HLQ := Lib.hid hl
        clear hl
        have HU := Lib.hid (Voi.chk_loose (l := (ys.map Prod.fst)) (by rw [List.length_map]; omega) HA.out HE.out HM1.out HM2.out HLQ.out)
        go_wp2_with fail
        have g_hc0 := fun dd os => cell_regrown hc0 dd os
        have g_hc1 := fun dd os => cell_regrown hc1 dd os
        have g_hc2 := fun dd os => cell_regrown hc2 dd os
        have g_hc3 := fun dd os => cell_regrown hc3 dd os
        have g_hc4 := fun dd os => cell_regrown hc4 dd os
        have g_hc5 := fun dd os => cell_regrown hc5 dd os
        have g_hc6 := fun dd os => cell_regrown hc6 dd os
        have g_hc7 := fun dd os => cell_regrown hc7 dd os
        have g_hc8 := fun dd os => cell_regrown hc8 dd os
        have g_hc0z := fun dd os => cell_regrown hc0z dd os
        have g_hc1z := fun dd os => cell_regrown hc1z dd os
        have g_hc2z := fun dd os => cell_regrown hc2z dd os
        have g_hc3z := fun dd os => cell_regrown hc3z dd os
        have g_hc4z := fun dd os => cell_regrown hc4z dd os
        have g_hc5z := fun dd os => cell_regrown hc5z dd os
        have g_hc6z := fun dd os => cell_regrown hc6z dd os
        have g_hc7z := fun dd os => cell_regrown hc7z dd os
        have g_hc8z := fun dd os => cell_regrown hc8z dd os
        have g_d_v_0 := fun dd os => cell_regrown d_v_0 dd os
        have q0 : Hid (∀ dd os, Calls Tryd.prog 41 #[evv (⟨k, ps, ts, b, d, n, e0, ms, str⟩ : Ev) (.slice p1 ps.length c1) (.slice p2 ts.length c2) (.slice p3 ms.length c3), evv (⟨kz, psz, tsz, bz, dz, nz, e0z, msz, strz⟩ : Ev) (.slice p1z psz.length c1z) (.slice p2z tsz.length c2z) (.slice p3z msz.length c3z)] (Go.Sort.grow (redrawn wr dd) os) fun e w'' => e = .returned (.bool false) ∧ ∃ p : Regrown, w'' = Go.Sort.grow (redrawn wr p.d) p.os) := Lib.hid (fun dd os => Calls.regrown_of (led_is HLQ.out HTL.out _ _ _ _ _ _ (Go.Sort.grow (redrawn wr dd) os) (HE1.out.later (below_regrown wr dd os)) (HE2.out.later (below_regrown wr dd os))))
        refine wp_region_quiet_below (by kernel_rfl) (by kernel_rfl) ?_
        repeat (go_big_quiet_step (first | (go_at_call 41; with_reducible exact q0.out _ _)))
        refine wpQuiet_nil ?_
        intro _ hw'
        obtain ⟨⟨dq, osq⟩, hw''⟩ := hw'
        subst hw''
        replace hc0 := g_hc0 dq osq
        clear g_hc0
        replace hc1 := g_hc1 dq osq
        clear g_hc1
        replace hc2 := g_hc2 dq osq
        clear g_hc2
        replace hc3 := g_hc3 dq osq
        clear g_hc3
        replace hc4 := g_hc4 dq osq
        clear g_hc4
        replace hc5 := g_hc5 dq osq
        clear g_hc5
        replace hc6 := g_hc6 dq osq
        clear g_hc6
        replace hc7 := g_hc7 dq osq
        clear g_hc7
        replace hc8 := g_hc8 dq osq
        clear g_hc8
        replace hc0z := g_hc0z dq osq
        clear g_hc0z
        replace hc1z := g_hc1z dq osq
        clear g_hc1z
        replace hc2z := g_hc2z dq osq
        clear g_hc2z
        replace hc3z := g_hc3z dq osq
        clear g_hc3z
        replace hc4z := g_hc4z dq osq
        clear g_hc4z
        replace hc5z := g_hc5z dq osq
        clear g_hc5z
        replace hc6z := g_hc6z dq osq
        clear g_hc6z
        replace hc7z := g_hc7z dq osq
        clear g_hc7z
        replace hc8z := g_hc8z dq osq
        clear g_hc8z
        replace d_v_0 := g_d_v_0 dq osq
        clear g_d_v_0
        clear q0
        have hb_w9 := below_regrown wr dq osq
        generalize Go.Sort.grow (redrawn wr dq) osq = w9 at *
        have hB9 := below_two hB hb_w9
        clear hb_w9
        go_wp2
        go_ret2
        exact ⟨by rw [HU.out]; rfl, below_two hB1 hB9⟩
      · have HLQ := Lib.hid hl
        clear hl
        have HN : Hid (∀ (t : Nat) a b, t < j + 1 → (ys.map Prod.fst)[t]? = some a → (ys.map Prod.fst)[t + 1]? = some b → Voi.led a b = true) := Lib.hid (fun t a b ht h1 h2 => by
          by_cases e : t = j
          · subst e; rw [HM1.out] at h1; rw [HM2.out] at h2; cases h1; cases h2; exact HLQ.out
          · exact HE.out t a b (by omega) h1 h2)
        go_wp2_with fail
        have g_hc0 := fun dd os => cell_regrown hc0 dd os
        have g_hc1 := fun dd os => cell_regrown hc1 dd os
        have g_hc2 := fun dd os => cell_regrown hc2 dd os
        have g_hc3 := fun dd os => cell_regrown hc3 dd os
        have g_hc4 := fun dd os => cell_regrown hc4 dd os
        have g_hc5 := fun dd os => cell_regrown hc5 dd os
        have g_hc6 := fun dd os => cell_regrown hc6 dd os
        have g_hc7 := fun dd os => cell_regrown hc7 dd os
        have g_hc8 := fun dd os => cell_regrown hc8 dd os
        have g_hc0z := fun dd os => cell_regrown hc0z dd os
        have g_hc1z := fun dd os => cell_regrown hc1z dd os
        have g_hc2z := fun dd os => cell_regrown hc2z dd os
        have g_hc3z := fun dd os => cell_regrown hc3z dd os
        have g_hc4z := fun dd os => cell_regrown hc4z dd os
        have g_hc5z := fun dd os => cell_regrown hc5z dd os
        have g_hc6z := fun dd os => cell_regrown hc6z dd os
        have g_hc7z := fun dd os => cell_regrown hc7z dd os
        have g_hc8z := fun dd os => cell_regrown hc8z dd os
        have g_d_v_0 := fun dd os => cell_regrown d_v_0 dd os
        have q0 : Hid (∀ dd os, Calls Tryd.prog 41 #[evv (⟨k, ps, ts, b, d, n, e0, ms, str⟩ : Ev) (.slice p1 ps.length c1) (.slice p2 ts.length c2) (.slice p3 ms.length c3), evv (⟨kz, psz, tsz, bz, dz, nz, e0z, msz, strz⟩ : Ev) (.slice p1z psz.length c1z) (.slice p2z tsz.length c2z) (.slice p3z msz.length c3z)] (Go.Sort.grow (redrawn wr dd) os) fun e w'' => e = .returned (.bool true) ∧ ∃ p : Regrown, w'' = Go.Sort.grow (redrawn wr p.d) p.os) := Lib.hid (fun dd os => Calls.regrown_of (led_is HLQ.out HTL.out _ _ _ _ _ _ (Go.Sort.grow (redrawn wr dd) os) (HE1.out.later (below_regrown wr dd os)) (HE2.out.later (below_regrown wr dd os))))
        refine wp_region_quiet_below (by kernel_rfl) (by kernel_rfl) ?_
        repeat (go_big_quiet_step (first | (go_at_call 41; with_reducible exact q0.out _ _)))
        refine wpQuiet_nil ?_
        intro _ hw'
        obtain ⟨⟨dq, osq⟩, hw''⟩ := hw'
        subst hw''
        replace hc0 := g_hc0 dq osq
        clear g_hc0
        replace hc1 := g_hc1 dq osq
        clear g_hc1
        replace hc2 := g_hc2 dq osq
        clear g_hc2
        replace hc3 := g_hc3 dq osq
        clear g_hc3
        replace hc4 := g_hc4 dq osq
        clear g_hc4
        replace hc5 := g_hc5 dq osq
        clear g_hc5
        replace hc6 := g_hc6 dq osq
        clear g_hc6
        replace hc7 := g_hc7 dq osq
        clear g_hc7
        replace hc8 := g_hc8 dq osq
        clear g_hc8
        replace hc0z := g_hc0z dq osq
        clear g_hc0z
        replace hc1z := g_hc1z dq osq
        clear g_hc1z
        replace hc2z := g_hc2z dq osq
        clear g_hc2z
        replace hc3z := g_hc3z dq osq
        clear g_hc3z
        replace hc4z := g_hc4z dq osq
        clear g_hc4z
        replace hc5z := g_hc5z dq osq
        clear g_hc5z
        replace hc6z := g_hc6z dq osq
        clear g_hc6z
        replace hc7z := g_hc7z dq osq
        clear g_hc7z
        replace hc8z := g_hc8z dq osq
        clear g_hc8z
        replace d_v_0 := g_d_v_0 dq osq
        clear g_d_v_0
        clear q0
        have hb_w9 := below_regrown wr dq osq
        generalize Go.Sort.grow (redrawn wr dq) osq = w9 at *
        have hB9 := below_two hB hb_w9
        clear hb_w9
        go_wp2
        go_roundw
        case rel => exact ⟨j + 1, Or.inr (by omega), by go_num, HN.out, hB9⟩
        case measure => simp [intOf]; omega
    · have hge : ¬ (j : Int) < (ys.length : Int) - 1 := by omega
      have HU := Lib.hid (Voi.chk_ok (l := (ys.map Prod.fst)) (by rw [List.length_map]; omega) HA.out (fun t a b h1 h2 => HE.out t a b (by
        have := (List.getElem?_eq_some_iff.1 h2).1
        rw [List.length_map] at this
        omega) h1 h2))
      go_wp2
      go_ret2
      exact ⟨by rw [HU.out]; rfl, hBw⟩

theorem check_any (v : Value) (ys : List EM) (w : World) (h : Evs w v ys) (hR : Ready w) : Calls Tryd.prog 22 #[.agg #[v]] w fun ed w' => ed = .returned (.tuple #[.int .i64 (Voi.chk (ys.map Prod.fst)).1, .int .i64 (Voi.chk (ys.map Prod.fst)).2]) ∧ Below w.heap.size w w' := by
  by_cases hm : 64 < ys.length
  · rw [Voi.chk_many (by rw [List.length_map]; exact hm)]; exact chk_many v ys w h (by omega)
  by_cases ha : (ys.map Prod.fst).all Evt.right = true
  · exact chk_rest v ys w h hR (by omega) (Lib.hid ha)
  · obtain ⟨k, hk⟩ : ∃ k, Voi.wrongAt (ys.map Prod.fst) = some k := by
      cases hw : Voi.wrongAt (ys.map Prod.fst) with
      | some k => exact ⟨k, rfl⟩
      | none => exact absurd (Voi.wrongAt_all hw) ha
    have e : Voi.chk (ys.map Prod.fst) = ((k : Int), 60) := by unfold Voi.chk; rw [if_neg (by rw [List.length_map]; exact hm), hk]
    rw [e]
    exact chk_wrong v ys k w h hR (by omega) (Lib.hid (by rw [hk]; rfl)) (by omega)
theorem check_is {ys : List EM} {n e : Int} (hc : Voi.chk (ys.map Prod.fst) = (n, e)) (v : Value) (w : World) (h : Evs w v ys) (hR : Ready w) : Calls Tryd.prog 22 #[.agg #[v]] w fun ed w' => ed = .returned (.tuple #[.int .i64 n, .int .i64 e]) ∧ Below w.heap.size w w' := by
  have := check_any v ys w h hR; rw [hc] at this; exact this
end Go.Proofs.YtobhmiknlbjmkaaDoor
