/-
  The contracts of slices.EqualFunc over events and of voice.Same.
-/
import Derived.Test.YtobhmiknlbjmkaaDoorVoB
import Derived.Deep.CutBlock
import Derived.Deep.DeepCutAuto
namespace Go.Proofs.YtobhmiknlbjmkaaDoor
open Go.RowKit
open Evt (P3 Ev)

set_option maxRecDepth 100000 in
set_option maxHeartbeats 4000000 in
theorem equalF_any (v u : Value) (ys zs : List EM) (w : World) (h : Evs w v ys) (h2 : Evs w u zs) :
    Calls Tryd.prog 47 #[v, u, .func (.func 48) #[] #[]] w fun ed w' => ed = .returned (.bool (Voi.same (ys.map Prod.fst) (zs.map Prod.fst))) ∧ Below w.heap.size w w' := by
  have HC := Lib.hid h
  have HD := Lib.hid h2
  obtain ⟨p0, c0, rfl, hl0⟩ := sl_shape h.row
  obtain ⟨p0z, c0z, rfl, hl0z⟩ := sl_shape h2.row
  clear h h2
  by_cases hlen : ys.length = zs.length
  case neg =>
    have hne : ((ys.length : Int) != (zs.length : Int)) = true := by simp; omega
    have HU := Lib.hid (Voi.same_len (l := (ys.map Prod.fst)) (m := (zs.map Prod.fst)) (by rw [List.length_map, List.length_map]; exact hlen))
    clear hlen
    go_enter Tryd.func47, Tryd.ntmps47
    go_wp2
    go_ret
    exact ⟨by rw [HU.out]; rfl, Below.refl _ _⟩
  case pos =>
  have hne : ((ys.length : Int) != (zs.length : Int)) = false := by simp; omega
  have HLEN := Lib.hid hlen
  clear hlen
  go_enter Tryd.func47, Tryd.ntmps47
  go_wp2
  go_loopw [17] (fun i wr => ∃ q : Nat, q ≤ ys.length ∧ i = .int .i64 (q : Int) ∧ (∀ (t : Nat) a b, t < q → (ys.map Prod.fst)[t]? = some a → (zs.map Prod.fst)[t]? = some b → sameE a b = true) ∧ Below w.heap.size w wr) (fun i _ => ys.length - (intOf i).toNat)
  case atStart => exact ⟨0, Nat.zero_le _, rfl, fun t a b ht => absurd ht (Nat.not_lt_zero _), Below.refl _ _⟩
  case round =>
    obtain ⟨q, hq, rfl, he, hB⟩ := hrel
    have HE := Lib.hid he
    clear he
    by_cases hlt : q < ys.length
    · have hlen := HLEN.out
      have hltI : (q : Int) < (ys.length : Int) := by omega
      have hltZ : (q : Int) < (zs.length : Int) := by omega
      have hltZ2 : q < zs.length := by omega
      obtain ⟨y, hy⟩ : ∃ y, ys[q]? = some y := ⟨_, List.getElem?_eq_getElem (by omega)⟩
      have hyR := HC.out.each y (List.mem_of_getElem? hy)
      obtain ⟨p1, c1, p2, c2, p3, c3, hys⟩ := evs_shape hyR
      have hat := evs_at HC.out hy
      generalize y.1 = x at *
      subst hys
      obtain ⟨k, ps, ts, b, d, n, e0, ms, str⟩ := x
      obtain ⟨b1, o1, e1, hc0, hc1, hc2, hc3, hc4, hc5, hc6, hc7, hc8⟩ := hat
      cases e1
      dsimp only at hyR hc0 hc1 hc2 hc3 hc4 hc5 hc6 hc7 hc8
      have HY := Lib.hid hy
      have HYR := Lib.hid hyR
      clear hy hyR
      replace hc0 := cell_later hB hc0
      replace hc1 := cell_later hB hc1
      replace hc2 := cell_later hB hc2
      replace hc3 := cell_later hB hc3
      replace hc4 := cell_later hB hc4
      replace hc5 := cell_later hB hc5
      replace hc6 := cell_later hB hc6
      replace hc7 := cell_later hB hc7
      replace hc8 := cell_later hB hc8
      obtain ⟨yz, hyz⟩ : ∃ y, zs[q]? = some y := ⟨_, List.getElem?_eq_getElem (by omega)⟩
      have hyRz := HD.out.each yz (List.mem_of_getElem? hyz)
      obtain ⟨p1z, c1z, p2z, c2z, p3z, c3z, hysz⟩ := evs_shape hyRz
      have hatz := evs_at HD.out hyz
      generalize yz.1 = xz at *
      subst hysz
      obtain ⟨kz, psz, tsz, bz, dz, nz, e0z, msz, strz⟩ := xz
      obtain ⟨b1z, o1z, e1z, hc0z, hc1z, hc2z, hc3z, hc4z, hc5z, hc6z, hc7z, hc8z⟩ := hatz
      cases e1z
      dsimp only at hyRz hc0z hc1z hc2z hc3z hc4z hc5z hc6z hc7z hc8z
      have HYz := Lib.hid hyz
      have HYRz := Lib.hid hyRz
      clear hyz hyRz
      replace hc0z := cell_later hB hc0z
      replace hc1z := cell_later hB hc1z
      replace hc2z := cell_later hB hc2z
      replace hc3z := cell_later hB hc3z
      replace hc4z := cell_later hB hc4z
      replace hc5z := cell_later hB hc5z
      replace hc6z := cell_later hB hc6z
      replace hc7z := cell_later hB hc7z
      replace hc8z := cell_later hB hc8z
      clear hlen
      have HM1 : Hid ((ys.map Prod.fst)[q]? = some (⟨k, ps, ts, b, d, n, e0, ms, str⟩ : Ev)) := Lib.hid (by rw [List.getElem?_map, HY.out]; rfl)
      have HM2 : Hid ((zs.map Prod.fst)[q]? = some (⟨kz, psz, tsz, bz, dz, nz, e0z, msz, strz⟩ : Ev)) := Lib.hid (by rw [List.getElem?_map, HYz.out]; rfl)
      have zz : b1z < wr.heap.size := World.block_lt_of_cell? _ _ hc0z
      cases hE : sameE (⟨k, ps, ts, b, d, n, e0, ms, str⟩ : Ev) (⟨kz, psz, tsz, bz, dz, nz, e0z, msz, strz⟩ : Ev)
      · go_wp2_with fail
        refine (esame_is (x := (⟨k, ps, ts, b, d, n, e0, ms, str⟩ : Ev)) (y := (⟨kz, psz, tsz, bz, dz, nz, e0z, msz, strz⟩ : Ev)) hE _ _ _ _ _ _ ((wr.alloc (.cells #[.int .i64 k, .slice p1 ps.length c1, .slice p2 ts.length c2, .int .i64 b, .int .i64 d, .int .i64 n, .int .i64 e0, .slice p3 ms.length c3, .string str] 51)).alloc (.cells #[.int .i64 kz, .slice p1z psz.length c1z, .slice p2z tsz.length c2z, .int .i64 bz, .int .i64 dz, .int .i64 nz, .int .i64 e0z, .slice p3z msz.length c3z, .string strz] 51)) (HYR.out.later (below_two hB (Below.alloc (Below.alloc (Below.refl _ _) (Nat.le_refl _) _) (by simp) _))) (HYRz.out.later (below_two hB (Below.alloc (Below.alloc (Below.refl _ _) (Nat.le_refl _) _) (by simp) _)))).mono ?_
        rintro e w9 ⟨rfl, hb9⟩
        have HE9 := Lib.hid hE
        clear hE
        have hB9 := below_two (below_two hB (Below.alloc (Below.alloc (Below.refl _ _) (Nat.le_refl _) _) (by simp) _)) hb9
        clear hb9
        go_wp2
        go_ret
        exact ⟨by rw [Voi.same_not HM1.out HM2.out HE9.out]; rfl, hB9⟩
      · have HN : Hid (∀ (t : Nat) a b, t < q + 1 → (ys.map Prod.fst)[t]? = some a → (zs.map Prod.fst)[t]? = some b → sameE a b = true) := Lib.hid (fun t a b ht h1 h2 => by
          by_cases e : t = q
          · subst e; rw [HM1.out] at h1; rw [HM2.out] at h2; cases h1; cases h2; exact hE
          · exact HE.out t a b (by omega) h1 h2)
        go_wp2_with fail
        refine (esame_is (x := (⟨k, ps, ts, b, d, n, e0, ms, str⟩ : Ev)) (y := (⟨kz, psz, tsz, bz, dz, nz, e0z, msz, strz⟩ : Ev)) hE _ _ _ _ _ _ ((wr.alloc (.cells #[.int .i64 k, .slice p1 ps.length c1, .slice p2 ts.length c2, .int .i64 b, .int .i64 d, .int .i64 n, .int .i64 e0, .slice p3 ms.length c3, .string str] 51)).alloc (.cells #[.int .i64 kz, .slice p1z psz.length c1z, .slice p2z tsz.length c2z, .int .i64 bz, .int .i64 dz, .int .i64 nz, .int .i64 e0z, .slice p3z msz.length c3z, .string strz] 51)) (HYR.out.later (below_two hB (Below.alloc (Below.alloc (Below.refl _ _) (Nat.le_refl _) _) (by simp) _))) (HYRz.out.later (below_two hB (Below.alloc (Below.alloc (Below.refl _ _) (Nat.le_refl _) _) (by simp) _)))).mono ?_
        rintro e w9 ⟨rfl, hb9⟩
        have HE9 := Lib.hid hE
        clear hE
        have hB9 := below_two (below_two hB (Below.alloc (Below.alloc (Below.refl _ _) (Nat.le_refl _) _) (by simp) _)) hb9
        clear hb9
        go_wp2
        go_roundw
        case rel => exact ⟨q + 1, by omega, by go_num, HN.out, hB9⟩
        case measure => simp [intOf]; omega
    · have hge : ¬ (q : Int) < (ys.length : Int) := by omega
      have HU := Lib.hid (Voi.same_yes (l := (ys.map Prod.fst)) (m := (zs.map Prod.fst)) (by rw [List.length_map, List.length_map]; exact HLEN.out) (fun t a b h1 h2 => HE.out t a b (by
        have := (List.getElem?_eq_some_iff.1 h1).1
        rw [List.length_map] at this
        omega) h1 h2))
      go_wp2
      go_ret
      exact ⟨by rw [HU.out]; rfl, hB⟩

set_option maxRecDepth 100000 in
set_option maxHeartbeats 40000000 in
theorem vsame_any (v u : Value) (ys zs : List EM) (w : World) (h : Evs w v ys) (h2 : Evs w u zs) :
    Calls Tryd.prog 24 #[.agg #[v], .agg #[u]] w fun ed w' => ed = .returned (.bool (Voi.same (ys.map Prod.fst) (zs.map Prod.fst))) ∧ Below w.heap.size w w' := by
  have HC := Lib.hid h
  have HD := Lib.hid h2
  obtain ⟨p0, c0, rfl, hl0⟩ := sl_shape h.row
  obtain ⟨p0z, c0z, rfl, hl0z⟩ := sl_shape h2.row
  clear h h2
  have hB0 : Below w.heap.size w w := Below.refl _ _
  go_enter Tryd.func24, Tryd.ntmps24
  go_wp2_with fail
  refine (equalF_any _ _ ys zs _ (HC.out.later ((hB0.alloc hB0.size (.cells #[.slice p0 ys.length c0] 26)).alloc (hB0.alloc hB0.size (.cells #[.slice p0 ys.length c0] 26)).size (.cells #[.slice p0z zs.length c0z] 26))) (HD.out.later ((hB0.alloc hB0.size (.cells #[.slice p0 ys.length c0] 26)).alloc (hB0.alloc hB0.size (.cells #[.slice p0 ys.length c0] 26)).size (.cells #[.slice p0z zs.length c0z] 26)))).mono ?_
  rintro e w1 ⟨rfl, hb1⟩
  have hs1 : Below w.heap.size w w1 := Below.trans (by repeat (first | exact Below.refl _ _ | refine Below.alloc ?_ (by simp <;> omega) _)) (hb1.mono (by simp <;> omega))
  have c_v_0 : w1.cell? ⟨w.heap.size, 0, none⟩ = some (.slice p0 ys.length c0) := (hb1.cell (by simp <;> omega)).trans (by go_simp)
  have c_u_0 : w1.cell? ⟨w.heap.size + 1, 0, none⟩ = some (.slice p0z zs.length c0z) := (hb1.cell (by simp <;> omega)).trans (by go_simp)
  have z_u : w.heap.size + 1 < _ := World.block_lt_of_cell? _ _ c_u_0
  have z_v : w.heap.size < _ := World.block_lt_of_cell? _ _ c_v_0
  have hB1 := below_two hB0 hs1
  clear hB0 hs1 hb1
  go_wp2
  go_ret
  exact ⟨rfl, hB1⟩

theorem vsame_is {ys zs : List EM} {q : Bool} (hq : Voi.same (ys.map Prod.fst) (zs.map Prod.fst) = q) (v u : Value) (w : World) (h : Evs w v ys) (h2 : Evs w u zs) : Calls Tryd.prog 24 #[.agg #[v], .agg #[u]] w fun ed w' => ed = .returned (.bool q) ∧ Below w.heap.size w w' := by subst hq; exact vsame_any v u ys zs w h h2
end Go.Proofs.YtobhmiknlbjmkaaDoor
