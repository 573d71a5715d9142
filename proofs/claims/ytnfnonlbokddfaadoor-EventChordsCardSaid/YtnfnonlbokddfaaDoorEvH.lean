/-
  The contract of event.Tied.
-/
import Derived.Test.YtnfnonlbokddfaaDoorEvG
namespace Go.Proofs.YtnfnonlbokddfaaDoor
open Go.RowKit
open Evt (P3 Ev)

def IdxPost (l : List Bool) (w : World) (e : Ending) (w' : World) : Prop := ∃ n : Int, e = .returned (.int .i64 n) ∧ decide (0 ≤ n) = l.any (fun t => t) ∧ Below w.heap.size w w'
def NoneRel (l : List Bool) (w : World) (i : Value) (wr : World) : Prop := ∃ k : Nat, k ≤ l.length ∧ i = .int .i64 (k : Int) ∧ (l.take k).any (fun t => t) = false ∧ Below w.heap.size w wr
theorem any_take {l : List Bool} {k : Nat} (hx : l[k]? = some false) (h : (l.take k).any (fun t => t) = false) : (l.take (k + 1)).any (fun t => t) = false := by
  rw [take_succ_at hx, List.any_append, h]; rfl
theorem any_hit {l : List Bool} {k : Nat} (hx : l[k]? = some true) : l.any (fun t => t) = true := by
  rw [List.any_eq_true]; exact ⟨true, List.mem_of_getElem? hx, rfl⟩

set_option maxRecDepth 100000 in
set_option maxHeartbeats 4000000 in
theorem indexB_any (v : Value) (l : List Bool) (w : World) (h : Bools w v l) :
    Calls Tryd.prog 116 #[v, .bool true] w (IdxPost l w) := by
  have HC := Lib.hid h
  obtain ⟨p1, c1, rfl, hl⟩ := sl_shape h
  clear h
  go_enter Tryd.func116, Tryd.ntmps116
  go_wp2
  go_loopw [8] (fun i wr => NoneRel l w i wr) (fun i _ => l.length - (intOf i).toNat)
  case atStart => exact ⟨0, Nat.zero_le _, rfl, rfl, Below.refl _ _⟩
  case round =>
    obtain ⟨k, hk, rfl, he, hB⟩ := hrel
    have HE := Lib.hid he
    clear he
    by_cases hlt : k < l.length
    · obtain ⟨x, hx⟩ : ∃ x, l[k]? = some x := ⟨_, List.getElem?_eq_getElem hlt⟩
      obtain ⟨b1, o1, e1, hc⟩ := bools_at HC.out hx
      subst e1
      have hc := cell_later hB hc
      have HX := Lib.hid hx
      have hlt' : (k : Int) < (l.length : Int) := by omega
      clear hx
      cases x
      · go_wp2
        go_roundw
        case rel => exact ⟨k + 1, by omega, by go_num, any_take HX.out HE.out, hB⟩
        case measure => simp [intOf]; omega
      · go_wp2
        go_ret
        exact ⟨_, rfl, (decide_eq_true (by omega)).trans (any_hit HX.out).symm, hB⟩
    · obtain rfl : k = l.length := by omega
      go_wp2
      go_ret
      exact ⟨_, rfl, by have := HE.out; rw [List.take_length] at this; rw [this]; rfl, hB⟩

set_option maxRecDepth 100000 in
set_option maxHeartbeats 4000000 in
theorem containsB_is {l : List Bool} {q : Bool} (hq : l.any (fun t => t) = q) (v : Value) (w : World) (h : Bools w v l) :
    Calls Tryd.prog 75 #[v, .bool true] w fun ed w' => ed = .returned (.bool q) ∧ Below w.heap.size w w' := by
  have HQ := Lib.hid hq
  have HC := Lib.hid h
  clear hq h
  go_enter Tryd.func75, Tryd.ntmps75
  go_wp2_with fail
  refine (indexB_any v l w HC.out).mono ?_
  rintro e w1 ⟨n, rfl, hn, hb⟩
  have HN := Lib.hid (hn.trans HQ.out)
  clear hn
  go_wp2
  go_ret
  exact ⟨ret_bool HN.out, hb⟩

set_option maxRecDepth 100000 in
set_option maxHeartbeats 4000000 in
theorem tied_no (x : Ev) (vp vt vm : Value) (w : World) (h : EvR w vp vt vm x) (hR : Ready w) (HQ : Hid (Evt.right x = false)) :
    Calls Tryd.prog 37 #[evv x vp vt vm] w fun ed w' => ed = .returned (.bool false) ∧ Below w.heap.size w w' := by
  obtain ⟨k, ps, ts, b, d, n, e0, ms, str⟩ := x
  obtain ⟨hps, hts, hms, hsz⟩ := h
  dsimp only at hps hts hms hsz HQ ⊢
  have Hps := Lib.hid hps
  obtain ⟨pps, cps, rfl, lps⟩ := sl_shape hps
  have Hts := Lib.hid hts
  obtain ⟨pts, cts, rfl, lts⟩ := sl_shape hts
  have Hms := Lib.hid hms
  obtain ⟨pms, cms, rfl, lms⟩ := sl_shape hms
  clear hps hts hms
  have hB0 : Below w.heap.size w w := Below.refl _ _
  go_enter Tryd.func37, Tryd.ntmps37
  go_wp2_with fail
  have hR' := hR.below (hB0.alloc hB0.size (.cells #[.int .i64 k, .slice pps ps.length cps, .slice pts ts.length cts, .int .i64 b, .int .i64 d, .int .i64 n, .int .i64 e0, .slice pms ms.length cms, .string str] 28))
  refine (eright_is HQ.out _ _ _ _ ⟨Hps.out.later (by repeat (first | exact Below.refl _ _ | refine Below.alloc ?_ (by simp <;> omega) _)), Hts.out.later (by repeat (first | exact Below.refl _ _ | refine Below.alloc ?_ (by simp <;> omega) _)), Hms.out.later (by repeat (first | exact Below.refl _ _ | refine Below.alloc ?_ (by simp <;> omega) _)), hsz⟩ hR').mono ?_
  rintro e w1 ⟨rfl, hb1⟩
  clear hR'
  have hs1 : Below w.heap.size w w1 := Below.trans (by repeat (first | exact Below.refl _ _ | refine Below.alloc ?_ (by simp <;> omega) _)) (hb1.mono (by simp <;> omega))
  replace Hps := Lib.hid (Hps.out.later hs1)
  replace Hts := Lib.hid (Hts.out.later hs1)
  replace Hms := Lib.hid (Hms.out.later hs1)
  have c_e_0 : w1.cell? ⟨w.heap.size, 0, none⟩ = some (.int .i64 k) := (hb1.cell (by simp <;> omega)).trans (by go_simp)
  have c_e_1 : w1.cell? ⟨w.heap.size, 1, none⟩ = some (.slice pps ps.length cps) := (hb1.cell (by simp <;> omega)).trans (by go_simp)
  have c_e_2 : w1.cell? ⟨w.heap.size, 2, none⟩ = some (.slice pts ts.length cts) := (hb1.cell (by simp <;> omega)).trans (by go_simp)
  have c_e_3 : w1.cell? ⟨w.heap.size, 3, none⟩ = some (.int .i64 b) := (hb1.cell (by simp <;> omega)).trans (by go_simp)
  have c_e_4 : w1.cell? ⟨w.heap.size, 4, none⟩ = some (.int .i64 d) := (hb1.cell (by simp <;> omega)).trans (by go_simp)
  have c_e_5 : w1.cell? ⟨w.heap.size, 5, none⟩ = some (.int .i64 n) := (hb1.cell (by simp <;> omega)).trans (by go_simp)
  have c_e_6 : w1.cell? ⟨w.heap.size, 6, none⟩ = some (.int .i64 e0) := (hb1.cell (by simp <;> omega)).trans (by go_simp)
  have c_e_7 : w1.cell? ⟨w.heap.size, 7, none⟩ = some (.slice pms ms.length cms) := (hb1.cell (by simp <;> omega)).trans (by go_simp)
  have c_e_8 : w1.cell? ⟨w.heap.size, 8, none⟩ = some (.string str) := (hb1.cell (by simp <;> omega)).trans (by go_simp)
  have z_e := World.block_lt_of_cell? _ _ c_e_0
  have hB1 := below_two hB0 hs1
  clear hB0 hs1 hb1
  go_wp2
  go_ret
  exact ⟨rfl, hB1⟩

set_option maxRecDepth 100000 in
set_option maxHeartbeats 4000000 in
theorem tied_yes (x : Ev) (vp vt vm : Value) (w : World) (q : Bool) (h : EvR w vp vt vm x) (hR : Ready w) (HQ : Hid (Evt.right x = true)) (HT : Hid (x.ts.any (fun t => t) = q)) :
    Calls Tryd.prog 37 #[evv x vp vt vm] w fun ed w' => ed = .returned (.bool q) ∧ Below w.heap.size w w' := by
  obtain ⟨k, ps, ts, b, d, n, e0, ms, str⟩ := x
  obtain ⟨hps, hts, hms, hsz⟩ := h
  dsimp only at hps hts hms hsz HQ HT ⊢
  have Hps := Lib.hid hps
  obtain ⟨pps, cps, rfl, lps⟩ := sl_shape hps
  have Hts := Lib.hid hts
  obtain ⟨pts, cts, rfl, lts⟩ := sl_shape hts
  have Hms := Lib.hid hms
  obtain ⟨pms, cms, rfl, lms⟩ := sl_shape hms
  clear hps hts hms
  have hB0 : Below w.heap.size w w := Below.refl _ _
  go_enter Tryd.func37, Tryd.ntmps37
  go_wp2_with fail
  have hR' := hR.below (hB0.alloc hB0.size (.cells #[.int .i64 k, .slice pps ps.length cps, .slice pts ts.length cts, .int .i64 b, .int .i64 d, .int .i64 n, .int .i64 e0, .slice pms ms.length cms, .string str] 28))
  refine (eright_is HQ.out _ _ _ _ ⟨Hps.out.later (by repeat (first | exact Below.refl _ _ | refine Below.alloc ?_ (by simp <;> omega) _)), Hts.out.later (by repeat (first | exact Below.refl _ _ | refine Below.alloc ?_ (by simp <;> omega) _)), Hms.out.later (by repeat (first | exact Below.refl _ _ | refine Below.alloc ?_ (by simp <;> omega) _)), hsz⟩ hR').mono ?_
  rintro e w1 ⟨rfl, hb1⟩
  clear hR'
  have hs1 : Below w.heap.size w w1 := Below.trans (by repeat (first | exact Below.refl _ _ | refine Below.alloc ?_ (by simp <;> omega) _)) (hb1.mono (by simp <;> omega))
  replace Hps := Lib.hid (Hps.out.later hs1)
  replace Hts := Lib.hid (Hts.out.later hs1)
  replace Hms := Lib.hid (Hms.out.later hs1)
  have c_e_0 : w1.cell? ⟨w.heap.size, 0, none⟩ = some (.int .i64 k) := (hb1.cell (by simp <;> omega)).trans (by go_simp)
  have c_e_1 : w1.cell? ⟨w.heap.size, 1, none⟩ = some (.slice pps ps.length cps) := (hb1.cell (by simp <;> omega)).trans (by go_simp)
  have c_e_2 : w1.cell? ⟨w.heap.size, 2, none⟩ = some (.slice pts ts.length cts) := (hb1.cell (by simp <;> omega)).trans (by go_simp)
  have c_e_3 : w1.cell? ⟨w.heap.size, 3, none⟩ = some (.int .i64 b) := (hb1.cell (by simp <;> omega)).trans (by go_simp)
  have c_e_4 : w1.cell? ⟨w.heap.size, 4, none⟩ = some (.int .i64 d) := (hb1.cell (by simp <;> omega)).trans (by go_simp)
  have c_e_5 : w1.cell? ⟨w.heap.size, 5, none⟩ = some (.int .i64 n) := (hb1.cell (by simp <;> omega)).trans (by go_simp)
  have c_e_6 : w1.cell? ⟨w.heap.size, 6, none⟩ = some (.int .i64 e0) := (hb1.cell (by simp <;> omega)).trans (by go_simp)
  have c_e_7 : w1.cell? ⟨w.heap.size, 7, none⟩ = some (.slice pms ms.length cms) := (hb1.cell (by simp <;> omega)).trans (by go_simp)
  have c_e_8 : w1.cell? ⟨w.heap.size, 8, none⟩ = some (.string str) := (hb1.cell (by simp <;> omega)).trans (by go_simp)
  have z_e := World.block_lt_of_cell? _ _ c_e_0
  have hB1 := below_two hB0 hs1
  clear hB0 hs1 hb1
  go_wp2_with fail
  have hR' := hR.below hB1
  refine (containsB_is HT.out _ _ Hts.out).mono ?_
  rintro e w2 ⟨rfl, hb2⟩
  clear hR'
  have hs2 := hb2
  replace Hps := Lib.hid (Hps.out.later hs2)
  replace Hts := Lib.hid (Hts.out.later hs2)
  replace Hms := Lib.hid (Hms.out.later hs2)
  replace c_e_0 := cell_later hs2 c_e_0
  replace c_e_1 := cell_later hs2 c_e_1
  replace c_e_2 := cell_later hs2 c_e_2
  replace c_e_3 := cell_later hs2 c_e_3
  replace c_e_4 := cell_later hs2 c_e_4
  replace c_e_5 := cell_later hs2 c_e_5
  replace c_e_6 := cell_later hs2 c_e_6
  replace c_e_7 := cell_later hs2 c_e_7
  replace c_e_8 := cell_later hs2 c_e_8
  clear z_e
  have z_e := World.block_lt_of_cell? _ _ c_e_0
  have hB2 := below_two hB1 hs2
  clear hB1 hs2
  go_wp2
  go_ret
  exact ⟨rfl, hB2⟩

theorem tied_is {x : Ev} {q : Bool} (hq : Evt.tied x = q) (vp vt vm : Value) (w : World) (h : EvR w vp vt vm x) (hR : Ready w) : Calls Tryd.prog 37 #[evv x vp vt vm] w fun ed w' => ed = .returned (.bool q) ∧ Below w.heap.size w w' := by
  subst hq
  unfold Evt.tied
  cases hr : Evt.right x
  · exact tied_no x _ _ _ w h hR (Lib.hid hr)
  · exact tied_yes x _ _ _ w _ h hR (Lib.hid hr) (Lib.hid rfl)
end Go.Proofs.YtnfnonlbokddfaaDoor
