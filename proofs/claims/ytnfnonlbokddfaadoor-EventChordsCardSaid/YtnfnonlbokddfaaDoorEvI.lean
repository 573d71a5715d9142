/-
  The contract of event.Up.
-/
import Derived.Test.YtnfnonlbokddfaaDoorEvH
import Derived.Test.YtnfnonlbokddfaaDoorEvSum
import Derived.Deep.RegionWith
namespace Go.Proofs.YtnfnonlbokddfaaDoor
open Go.RowKit

open Evt (P3 Ev)
theorem Evt.IsR.ms4 {x : Ev} (h : Evt.IsR x) : x.ms.length ≤ 4 := by
  rw [← Evt.mk_one h (l := [x]) (by simp) (by simp)]
  exact List.length_filter_le _ _
/-- An event and an error that are answered. -/
def EvRes (r : Ev × Int) (w : World) (ed : Ending) (w' : World) : Prop := ∃ vp vt vm, ed = .returned (.tuple #[evv r.1 vp vt vm, .int .i64 r.2]) ∧ EvR w' vp vt vm r.1 ∧ Below w.heap.size w w'
/-- .. whose lists are nil or lie in memory of the call's own. -/
def EvResO (r : Ev × Int) (w : World) (ed : Ending) (w' : World) : Prop := ∃ vp vt vm, ed = .returned (.tuple #[evv r.1 vp vt vm, .int .i64 r.2]) ∧ EvR w' vp vt vm r.1 ∧ (Own w.heap.size vp ∧ Own w.heap.size vt ∧ Own w.heap.size vm) ∧ Below w.heap.size w w'
theorem EvResO.res {r : Ev × Int} {w w' : World} {ed : Ending} (h : EvResO r w ed w') : EvRes r w ed w' := let ⟨vp, vt, vm, a, b, _, d⟩ := h; ⟨vp, vt, vm, a, b, d⟩
theorem EvR.zero (w : World) : EvR w (.slice none 0 0) (.slice none 0 0) (.slice none 0 0) Evt.zero := ⟨Sl.none _ _ _, Sl.none _ _ _, Sl.none _ _ _, by show (0 : Nat) ≤ _; omega⟩
theorem put9_evr {w : World} {B : Nat} {x0 x1 x2 x3 x4 x5 x6 x7 x8 vp vt vm : Value} {x : Ev} (h : EvR w vp vt vm x) (hp : Own (B + 1) vp) (ht : Own (B + 1) vt) (hm : Own (B + 1) vm) : EvR (put9 w B x0 x1 x2 x3 x4 x5 x6 x7 x8) vp vt vm x :=
  ⟨(((((((((h.ps).set hp (by omega)).set hp (by omega)).set hp (by omega)).set hp (by omega)).set hp (by omega)).set hp (by omega)).set hp (by omega)).set hp (by omega)).set hp (by omega), (((((((((h.ts).set ht (by omega)).set ht (by omega)).set ht (by omega)).set ht (by omega)).set ht (by omega)).set ht (by omega)).set ht (by omega)).set ht (by omega)).set ht (by omega), (((((((((h.ms).set hm (by omega)).set hm (by omega)).set hm (by omega)).set hm (by omega)).set hm (by omega)).set hm (by omega)).set hm (by omega)).set hm (by omega)).set hm (by omega), h.sz⟩
theorem evRes_zero {e : Int} {w w' : World} {ed : Ending} (he : ed = .returned (.tuple #[evz, .int .i64 e])) (hb : Below w.heap.size w w') : EvRes (Evt.zero, e) w ed w' := ⟨_, _, _, he, EvR.zero _, hb⟩
theorem evResO_zero {e : Int} {w w' : World} {ed : Ending} (he : ed = .returned (.tuple #[evz, .int .i64 e])) (hb : Below w.heap.size w w') : EvResO (Evt.zero, e) w ed w' := ⟨_, _, _, he, EvR.zero _, ⟨Own.nil _ _ _, Own.nil _ _ _, Own.nil _ _ _⟩, hb⟩

set_option maxRecDepth 100000 in
set_option maxHeartbeats 8000000 in
theorem up_no (x : Ev) (vp vt vm : Value) (S H : Int) (w : World) (h : EvR w vp vt vm x) (hR : Ready w) (HQ : Hid (Evt.right x = false)) :
    Calls Tryd.prog 14 #[evv x vp vt vm, iv S H] w fun ed w' => ed = .returned (.tuple #[evz, .int .i64 60]) ∧ Below w.heap.size w w' := by
  obtain ⟨k, ps, ts, b, d, n, e0, ms, str⟩ := x
  obtain ⟨hps, hts, hms, hsz⟩ := h
  dsimp only at hps hts hms hsz HQ ⊢
  have Hps := Lib.hid hps
  obtain ⟨pps, cps, rfl, lps⟩ := sl_shape hps
  have Hts := Lib.hid hts
  obtain ⟨pts, cts, rfl, lts⟩ := sl_shape hts
  have Hms := Lib.hid hms
  obtain ⟨pms, cms, rfl, lms⟩ := sl_shape hms
  clear hps hts hms
  have hB0 : Below w.heap.size w w := Below.refl _ _
  go_enter Tryd.func14, Tryd.ntmps14
  go_wp2_with fail
  have hR' := hR.below (((hB0.alloc hB0.size (.cells #[.int .i64 k, .slice pps ps.length cps, .slice pts ts.length cts, .int .i64 b, .int .i64 d, .int .i64 n, .int .i64 e0, .slice pms ms.length cms, .string str] 28)).alloc (hB0.alloc hB0.size (.cells #[.int .i64 k, .slice pps ps.length cps, .slice pts ts.length cts, .int .i64 b, .int .i64 d, .int .i64 n, .int .i64 e0, .slice pms ms.length cms, .string str] 28)).size (.cells #[.int .i64 S, .int .i64 H] 30)).alloc ((hB0.alloc hB0.size (.cells #[.int .i64 k, .slice pps ps.length cps, .slice pts ts.length cts, .int .i64 b, .int .i64 d, .int .i64 n, .int .i64 e0, .slice pms ms.length cms, .string str] 28)).alloc (hB0.alloc hB0.size (.cells #[.int .i64 k, .slice pps ps.length cps, .slice pts ts.length cts, .int .i64 b, .int .i64 d, .int .i64 n, .int .i64 e0, .slice pms ms.length cms, .string str] 28)).size (.cells #[.int .i64 S, .int .i64 H] 30)).size (.cells #[.int .i64 0, .slice none 0 0, .slice none 0 0, .int .i64 0, .int .i64 0, .int .i64 0, .int .i64 0, .slice none 0 0, .string ⟨#[]⟩] 28))
  refine (eright_is HQ.out _ _ _ _ ⟨Hps.out.later (by repeat (first | exact Below.refl _ _ | refine Below.alloc ?_ (by simp <;> omega) _)), Hts.out.later (by repeat (first | exact Below.refl _ _ | refine Below.alloc ?_ (by simp <;> omega) _)), Hms.out.later (by repeat (first | exact Below.refl _ _ | refine Below.alloc ?_ (by simp <;> omega) _)), hsz⟩ hR').mono ?_
  rintro e w1 ⟨rfl, hb1⟩
  clear hR'
  have hs1 : Below w.heap.size w w1 := Below.trans (by repeat (first | exact Below.refl _ _ | refine Below.alloc ?_ (by simp <;> omega) _)) (hb1.mono (by simp <;> omega))
  replace Hps := Lib.hid (Hps.out.later hs1)
  replace Hts := Lib.hid (Hts.out.later hs1)
  replace Hms := Lib.hid (Hms.out.later hs1)
  have c_e_0 : w1.cell? ⟨w.heap.size, 0, none⟩ = some (.int .i64 k) := (hb1.cell (by simp <;> omega)).trans (by go_simp)
  have f_e_0 : w1.frozen? ⟨w.heap.size, 0, none⟩ = false := (hb1.frozen (by simp <;> omega)).trans (by go_simp)
  have c_e_1 : w1.cell? ⟨w.heap.size, 1, none⟩ = some (.slice pps ps.length cps) := (hb1.cell (by simp <;> omega)).trans (by go_simp)
  have f_e_1 : w1.frozen? ⟨w.heap.size, 1, none⟩ = false := (hb1.frozen (by simp <;> omega)).trans (by go_simp)
  have c_e_2 : w1.cell? ⟨w.heap.size, 2, none⟩ = some (.slice pts ts.length cts) := (hb1.cell (by simp <;> omega)).trans (by go_simp)
  have f_e_2 : w1.frozen? ⟨w.heap.size, 2, none⟩ = false := (hb1.frozen (by simp <;> omega)).trans (by go_simp)
  have c_e_3 : w1.cell? ⟨w.heap.size, 3, none⟩ = some (.int .i64 b) := (hb1.cell (by simp <;> omega)).trans (by go_simp)
  have f_e_3 : w1.frozen? ⟨w.heap.size, 3, none⟩ = false := (hb1.frozen (by simp <;> omega)).trans (by go_simp)
  have c_e_4 : w1.cell? ⟨w.heap.size, 4, none⟩ = some (.int .i64 d) := (hb1.cell (by simp <;> omega)).trans (by go_simp)
  have f_e_4 : w1.frozen? ⟨w.heap.size, 4, none⟩ = false := (hb1.frozen (by simp <;> omega)).trans (by go_simp)
  have c_e_5 : w1.cell? ⟨w.heap.size, 5, none⟩ = some (.int .i64 n) := (hb1.cell (by simp <;> omega)).trans (by go_simp)
  have f_e_5 : w1.frozen? ⟨w.heap.size, 5, none⟩ = false := (hb1.frozen (by simp <;> omega)).trans (by go_simp)
  have c_e_6 : w1.cell? ⟨w.heap.size, 6, none⟩ = some (.int .i64 e0) := (hb1.cell (by simp <;> omega)).trans (by go_simp)
  have f_e_6 : w1.frozen? ⟨w.heap.size, 6, none⟩ = false := (hb1.frozen (by simp <;> omega)).trans (by go_simp)
  have c_e_7 : w1.cell? ⟨w.heap.size, 7, none⟩ = some (.slice pms ms.length cms) := (hb1.cell (by simp <;> omega)).trans (by go_simp)
  have f_e_7 : w1.frozen? ⟨w.heap.size, 7, none⟩ = false := (hb1.frozen (by simp <;> omega)).trans (by go_simp)
  have c_e_8 : w1.cell? ⟨w.heap.size, 8, none⟩ = some (.string str) := (hb1.cell (by simp <;> omega)).trans (by go_simp)
  have f_e_8 : w1.frozen? ⟨w.heap.size, 8, none⟩ = false := (hb1.frozen (by simp <;> omega)).trans (by go_simp)
  have c_i_0 : w1.cell? ⟨w.heap.size + 1, 0, none⟩ = some (.int .i64 S) := (hb1.cell (by simp <;> omega)).trans (by go_simp)
  have c_i_1 : w1.cell? ⟨w.heap.size + 1, 1, none⟩ = some (.int .i64 H) := (hb1.cell (by simp <;> omega)).trans (by go_simp)
  have c_r_0 : w1.cell? ⟨w.heap.size + 1 + 1, 0, none⟩ = some (.int .i64 0) := (hb1.cell (by simp <;> omega)).trans (by go_simp)
  have f_r_0 : w1.frozen? ⟨w.heap.size + 1 + 1, 0, none⟩ = false := (hb1.frozen (by simp <;> omega)).trans (by go_simp)
  have c_r_1 : w1.cell? ⟨w.heap.size + 1 + 1, 1, none⟩ = some (.slice none 0 0) := (hb1.cell (by simp <;> omega)).trans (by go_simp)
  have f_r_1 : w1.frozen? ⟨w.heap.size + 1 + 1, 1, none⟩ = false := (hb1.frozen (by simp <;> omega)).trans (by go_simp)
  have c_r_2 : w1.cell? ⟨w.heap.size + 1 + 1, 2, none⟩ = some (.slice none 0 0) := (hb1.cell (by simp <;> omega)).trans (by go_simp)
  have f_r_2 : w1.frozen? ⟨w.heap.size + 1 + 1, 2, none⟩ = false := (hb1.frozen (by simp <;> omega)).trans (by go_simp)
  have c_r_3 : w1.cell? ⟨w.heap.size + 1 + 1, 3, none⟩ = some (.int .i64 0) := (hb1.cell (by simp <;> omega)).trans (by go_simp)
  have f_r_3 : w1.frozen? ⟨w.heap.size + 1 + 1, 3, none⟩ = false := (hb1.frozen (by simp <;> omega)).trans (by go_simp)
  have c_r_4 : w1.cell? ⟨w.heap.size + 1 + 1, 4, none⟩ = some (.int .i64 0) := (hb1.cell (by simp <;> omega)).trans (by go_simp)
  have f_r_4 : w1.frozen? ⟨w.heap.size + 1 + 1, 4, none⟩ = false := (hb1.frozen (by simp <;> omega)).trans (by go_simp)
  have c_r_5 : w1.cell? ⟨w.heap.size + 1 + 1, 5, none⟩ = some (.int .i64 0) := (hb1.cell (by simp <;> omega)).trans (by go_simp)
  have f_r_5 : w1.frozen? ⟨w.heap.size + 1 + 1, 5, none⟩ = false := (hb1.frozen (by simp <;> omega)).trans (by go_simp)
  have c_r_6 : w1.cell? ⟨w.heap.size + 1 + 1, 6, none⟩ = some (.int .i64 0) := (hb1.cell (by simp <;> omega)).trans (by go_simp)
  have f_r_6 : w1.frozen? ⟨w.heap.size + 1 + 1, 6, none⟩ = false := (hb1.frozen (by simp <;> omega)).trans (by go_simp)
  have c_r_7 : w1.cell? ⟨w.heap.size + 1 + 1, 7, none⟩ = some (.slice none 0 0) := (hb1.cell (by simp <;> omega)).trans (by go_simp)
  have f_r_7 : w1.frozen? ⟨w.heap.size + 1 + 1, 7, none⟩ = false := (hb1.frozen (by simp <;> omega)).trans (by go_simp)
  have c_r_8 : w1.cell? ⟨w.heap.size + 1 + 1, 8, none⟩ = some (.string ⟨#[]⟩) := (hb1.cell (by simp <;> omega)).trans (by go_simp)
  have f_r_8 : w1.frozen? ⟨w.heap.size + 1 + 1, 8, none⟩ = false := (hb1.frozen (by simp <;> omega)).trans (by go_simp)
  have z_e := World.block_lt_of_cell? _ _ c_e_0
  have z_i := World.block_lt_of_cell? _ _ c_i_0
  have z_r := World.block_lt_of_cell? _ _ c_r_0
  have hB1 := below_two hB0 hs1
  clear hB0 hs1 hb1
  obtain ⟨m0, m1, m2, m3, m4, m5, m6, m7, m8⟩ := put9_of (x0 := .int .i64 0) (x1 := .slice none 0 0) (x2 := .slice none 0 0) (x3 := .int .i64 0) (x4 := .int .i64 0) (x5 := .int .i64 0) (x6 := .int .i64 0) (x7 := .slice none 0 0) (x8 := .string ⟨#[]⟩) c_r_0 c_r_1 c_r_2 c_r_3 c_r_4 c_r_5 c_r_6 c_r_7 c_r_8
  go_wp2
  exact bodyPost_ret (v := .tuple #[.agg #[.int .i64 0, .slice none 0 0, .slice none 0 0, .int .i64 0, .int .i64 0, .int .i64 0, .int .i64 0, .slice none 0 0, .string ⟨#[]⟩], .int .i64 60]) (by simp [results, Tryd.results14, go_sem, m0, m1, m2, m3, m4, m5, m6, m7, m8]) rfl ⟨rfl, put9_below hB1 (by omega)⟩

set_option maxRecDepth 100000 in
set_option maxHeartbeats 8000000 in
theorem up_none (x : Ev) (vp vt vm : Value) (S H : Int) (w : World) (h : EvR w vp vt vm x) (hR : Ready w) (HQ : Hid (Evt.right x = true)) (HL : Hid (Evt.lift S H x.ps = none)) (n1 : x.ps.length ≤ 8) :
    Calls Tryd.prog 14 #[evv x vp vt vm, iv S H] w fun ed w' => ed = .returned (.tuple #[evz, .int .i64 20]) ∧ Below w.heap.size w w' := by
  obtain ⟨k, ps, ts, b, d, n, e0, ms, str⟩ := x
  obtain ⟨hps, hts, hms, hsz⟩ := h
  dsimp only at hps hts hms hsz HQ HL n1 ⊢
  have Hps := Lib.hid hps
  obtain ⟨pps, cps, rfl, lps⟩ := sl_shape hps
  have Hts := Lib.hid hts
  obtain ⟨pts, cts, rfl, lts⟩ := sl_shape hts
  have Hms := Lib.hid hms
  obtain ⟨pms, cms, rfl, lms⟩ := sl_shape hms
  clear hps hts hms
  have hB0 : Below w.heap.size w w := Below.refl _ _
  go_enter Tryd.func14, Tryd.ntmps14
  go_wp2_with fail
  have hR' := hR.below (((hB0.alloc hB0.size (.cells #[.int .i64 k, .slice pps ps.length cps, .slice pts ts.length cts, .int .i64 b, .int .i64 d, .int .i64 n, .int .i64 e0, .slice pms ms.length cms, .string str] 28)).alloc (hB0.alloc hB0.size (.cells #[.int .i64 k, .slice pps ps.length cps, .slice pts ts.length cts, .int .i64 b, .int .i64 d, .int .i64 n, .int .i64 e0, .slice pms ms.length cms, .string str] 28)).size (.cells #[.int .i64 S, .int .i64 H] 30)).alloc ((hB0.alloc hB0.size (.cells #[.int .i64 k, .slice pps ps.length cps, .slice pts ts.length cts, .int .i64 b, .int .i64 d, .int .i64 n, .int .i64 e0, .slice pms ms.length cms, .string str] 28)).alloc (hB0.alloc hB0.size (.cells #[.int .i64 k, .slice pps ps.length cps, .slice pts ts.length cts, .int .i64 b, .int .i64 d, .int .i64 n, .int .i64 e0, .slice pms ms.length cms, .string str] 28)).size (.cells #[.int .i64 S, .int .i64 H] 30)).size (.cells #[.int .i64 0, .slice none 0 0, .slice none 0 0, .int .i64 0, .int .i64 0, .int .i64 0, .int .i64 0, .slice none 0 0, .string ⟨#[]⟩] 28))
  refine (eright_is HQ.out _ _ _ _ ⟨Hps.out.later (by repeat (first | exact Below.refl _ _ | refine Below.alloc ?_ (by simp <;> omega) _)), Hts.out.later (by repeat (first | exact Below.refl _ _ | refine Below.alloc ?_ (by simp <;> omega) _)), Hms.out.later (by repeat (first | exact Below.refl _ _ | refine Below.alloc ?_ (by simp <;> omega) _)), hsz⟩ hR').mono ?_
  rintro e w1 ⟨rfl, hb1⟩
  clear hR'
  have hs1 : Below w.heap.size w w1 := Below.trans (by repeat (first | exact Below.refl _ _ | refine Below.alloc ?_ (by simp <;> omega) _)) (hb1.mono (by simp <;> omega))
  replace Hps := Lib.hid (Hps.out.later hs1)
  replace Hts := Lib.hid (Hts.out.later hs1)
  replace Hms := Lib.hid (Hms.out.later hs1)
  have c_e_0 : w1.cell? ⟨w.heap.size, 0, none⟩ = some (.int .i64 k) := (hb1.cell (by simp <;> omega)).trans (by go_simp)
  have f_e_0 : w1.frozen? ⟨w.heap.size, 0, none⟩ = false := (hb1.frozen (by simp <;> omega)).trans (by go_simp)
  have c_e_1 : w1.cell? ⟨w.heap.size, 1, none⟩ = some (.slice pps ps.length cps) := (hb1.cell (by simp <;> omega)).trans (by go_simp)
  have f_e_1 : w1.frozen? ⟨w.heap.size, 1, none⟩ = false := (hb1.frozen (by simp <;> omega)).trans (by go_simp)
  have c_e_2 : w1.cell? ⟨w.heap.size, 2, none⟩ = some (.slice pts ts.length cts) := (hb1.cell (by simp <;> omega)).trans (by go_simp)
  have f_e_2 : w1.frozen? ⟨w.heap.size, 2, none⟩ = false := (hb1.frozen (by simp <;> omega)).trans (by go_simp)
  have c_e_3 : w1.cell? ⟨w.heap.size, 3, none⟩ = some (.int .i64 b) := (hb1.cell (by simp <;> omega)).trans (by go_simp)
  have f_e_3 : w1.frozen? ⟨w.heap.size, 3, none⟩ = false := (hb1.frozen (by simp <;> omega)).trans (by go_simp)
  have c_e_4 : w1.cell? ⟨w.heap.size, 4, none⟩ = some (.int .i64 d) := (hb1.cell (by simp <;> omega)).trans (by go_simp)
  have f_e_4 : w1.frozen? ⟨w.heap.size, 4, none⟩ = false := (hb1.frozen (by simp <;> omega)).trans (by go_simp)
  have c_e_5 : w1.cell? ⟨w.heap.size, 5, none⟩ = some (.int .i64 n) := (hb1.cell (by simp <;> omega)).trans (by go_simp)
  have f_e_5 : w1.frozen? ⟨w.heap.size, 5, none⟩ = false := (hb1.frozen (by simp <;> omega)).trans (by go_simp)
  have c_e_6 : w1.cell? ⟨w.heap.size, 6, none⟩ = some (.int .i64 e0) := (hb1.cell (by simp <;> omega)).trans (by go_simp)
  have f_e_6 : w1.frozen? ⟨w.heap.size, 6, none⟩ = false := (hb1.frozen (by simp <;> omega)).trans (by go_simp)
  have c_e_7 : w1.cell? ⟨w.heap.size, 7, none⟩ = some (.slice pms ms.length cms) := (hb1.cell (by simp <;> omega)).trans (by go_simp)
  have f_e_7 : w1.frozen? ⟨w.heap.size, 7, none⟩ = false := (hb1.frozen (by simp <;> omega)).trans (by go_simp)
  have c_e_8 : w1.cell? ⟨w.heap.size, 8, none⟩ = some (.string str) := (hb1.cell (by simp <;> omega)).trans (by go_simp)
  have f_e_8 : w1.frozen? ⟨w.heap.size, 8, none⟩ = false := (hb1.frozen (by simp <;> omega)).trans (by go_simp)
  have c_i_0 : w1.cell? ⟨w.heap.size + 1, 0, none⟩ = some (.int .i64 S) := (hb1.cell (by simp <;> omega)).trans (by go_simp)
  have c_i_1 : w1.cell? ⟨w.heap.size + 1, 1, none⟩ = some (.int .i64 H) := (hb1.cell (by simp <;> omega)).trans (by go_simp)
  have c_r_0 : w1.cell? ⟨w.heap.size + 1 + 1, 0, none⟩ = some (.int .i64 0) := (hb1.cell (by simp <;> omega)).trans (by go_simp)
  have f_r_0 : w1.frozen? ⟨w.heap.size + 1 + 1, 0, none⟩ = false := (hb1.frozen (by simp <;> omega)).trans (by go_simp)
  have c_r_1 : w1.cell? ⟨w.heap.size + 1 + 1, 1, none⟩ = some (.slice none 0 0) := (hb1.cell (by simp <;> omega)).trans (by go_simp)
  have f_r_1 : w1.frozen? ⟨w.heap.size + 1 + 1, 1, none⟩ = false := (hb1.frozen (by simp <;> omega)).trans (by go_simp)
  have c_r_2 : w1.cell? ⟨w.heap.size + 1 + 1, 2, none⟩ = some (.slice none 0 0) := (hb1.cell (by simp <;> omega)).trans (by go_simp)
  have f_r_2 : w1.frozen? ⟨w.heap.size + 1 + 1, 2, none⟩ = false := (hb1.frozen (by simp <;> omega)).trans (by go_simp)
  have c_r_3 : w1.cell? ⟨w.heap.size + 1 + 1, 3, none⟩ = some (.int .i64 0) := (hb1.cell (by simp <;> omega)).trans (by go_simp)
  have f_r_3 : w1.frozen? ⟨w.heap.size + 1 + 1, 3, none⟩ = false := (hb1.frozen (by simp <;> omega)).trans (by go_simp)
  have c_r_4 : w1.cell? ⟨w.heap.size + 1 + 1, 4, none⟩ = some (.int .i64 0) := (hb1.cell (by simp <;> omega)).trans (by go_simp)
  have f_r_4 : w1.frozen? ⟨w.heap.size + 1 + 1, 4, none⟩ = false := (hb1.frozen (by simp <;> omega)).trans (by go_simp)
  have c_r_5 : w1.cell? ⟨w.heap.size + 1 + 1, 5, none⟩ = some (.int .i64 0) := (hb1.cell (by simp <;> omega)).trans (by go_simp)
  have f_r_5 : w1.frozen? ⟨w.heap.size + 1 + 1, 5, none⟩ = false := (hb1.frozen (by simp <;> omega)).trans (by go_simp)
  have c_r_6 : w1.cell? ⟨w.heap.size + 1 + 1, 6, none⟩ = some (.int .i64 0) := (hb1.cell (by simp <;> omega)).trans (by go_simp)
  have f_r_6 : w1.frozen? ⟨w.heap.size + 1 + 1, 6, none⟩ = false := (hb1.frozen (by simp <;> omega)).trans (by go_simp)
  have c_r_7 : w1.cell? ⟨w.heap.size + 1 + 1, 7, none⟩ = some (.slice none 0 0) := (hb1.cell (by simp <;> omega)).trans (by go_simp)
  have f_r_7 : w1.frozen? ⟨w.heap.size + 1 + 1, 7, none⟩ = false := (hb1.frozen (by simp <;> omega)).trans (by go_simp)
  have c_r_8 : w1.cell? ⟨w.heap.size + 1 + 1, 8, none⟩ = some (.string ⟨#[]⟩) := (hb1.cell (by simp <;> omega)).trans (by go_simp)
  have f_r_8 : w1.frozen? ⟨w.heap.size + 1 + 1, 8, none⟩ = false := (hb1.frozen (by simp <;> omega)).trans (by go_simp)
  have z_e := World.block_lt_of_cell? _ _ c_e_0
  have z_i := World.block_lt_of_cell? _ _ c_i_0
  have z_r := World.block_lt_of_cell? _ _ c_r_0
  have hB1 := below_two hB0 hs1
  clear hB0 hs1 hb1
  go_wp2_with fail
  have hR' := hR.below hB1
  refine (lifted_none HL.out _ Hps.out (by omega) hR').mono ?_
  rintro e w2 ⟨rfl, hb2⟩
  clear hR'
  have hs2 := hb2
  replace Hps := Lib.hid (Hps.out.later hs2)
  replace Hts := Lib.hid (Hts.out.later hs2)
  replace Hms := Lib.hid (Hms.out.later hs2)
  replace f_e_0 := frozen_later hs2 c_e_0 f_e_0
  replace c_e_0 := cell_later hs2 c_e_0
  replace f_e_1 := frozen_later hs2 c_e_1 f_e_1
  replace c_e_1 := cell_later hs2 c_e_1
  replace f_e_2 := frozen_later hs2 c_e_2 f_e_2
  replace c_e_2 := cell_later hs2 c_e_2
  replace f_e_3 := frozen_later hs2 c_e_3 f_e_3
  replace c_e_3 := cell_later hs2 c_e_3
  replace f_e_4 := frozen_later hs2 c_e_4 f_e_4
  replace c_e_4 := cell_later hs2 c_e_4
  replace f_e_5 := frozen_later hs2 c_e_5 f_e_5
  replace c_e_5 := cell_later hs2 c_e_5
  replace f_e_6 := frozen_later hs2 c_e_6 f_e_6
  replace c_e_6 := cell_later hs2 c_e_6
  replace f_e_7 := frozen_later hs2 c_e_7 f_e_7
  replace c_e_7 := cell_later hs2 c_e_7
  replace f_e_8 := frozen_later hs2 c_e_8 f_e_8
  replace c_e_8 := cell_later hs2 c_e_8
  replace c_i_0 := cell_later hs2 c_i_0
  replace c_i_1 := cell_later hs2 c_i_1
  replace f_r_0 := frozen_later hs2 c_r_0 f_r_0
  replace c_r_0 := cell_later hs2 c_r_0
  replace f_r_1 := frozen_later hs2 c_r_1 f_r_1
  replace c_r_1 := cell_later hs2 c_r_1
  replace f_r_2 := frozen_later hs2 c_r_2 f_r_2
  replace c_r_2 := cell_later hs2 c_r_2
  replace f_r_3 := frozen_later hs2 c_r_3 f_r_3
  replace c_r_3 := cell_later hs2 c_r_3
  replace f_r_4 := frozen_later hs2 c_r_4 f_r_4
  replace c_r_4 := cell_later hs2 c_r_4
  replace f_r_5 := frozen_later hs2 c_r_5 f_r_5
  replace c_r_5 := cell_later hs2 c_r_5
  replace f_r_6 := frozen_later hs2 c_r_6 f_r_6
  replace c_r_6 := cell_later hs2 c_r_6
  replace f_r_7 := frozen_later hs2 c_r_7 f_r_7
  replace c_r_7 := cell_later hs2 c_r_7
  replace f_r_8 := frozen_later hs2 c_r_8 f_r_8
  replace c_r_8 := cell_later hs2 c_r_8
  clear z_e
  have z_e := World.block_lt_of_cell? _ _ c_e_0
  clear z_i
  have z_i := World.block_lt_of_cell? _ _ c_i_0
  clear z_r
  have z_r := World.block_lt_of_cell? _ _ c_r_0
  have hB2 := below_two hB1 hs2
  clear hB1 hs2
  obtain ⟨m0, m1, m2, m3, m4, m5, m6, m7, m8⟩ := put9_of (x0 := .int .i64 0) (x1 := .slice none 0 0) (x2 := .slice none 0 0) (x3 := .int .i64 0) (x4 := .int .i64 0) (x5 := .int .i64 0) (x6 := .int .i64 0) (x7 := .slice none 0 0) (x8 := .string ⟨#[]⟩) c_r_0 c_r_1 c_r_2 c_r_3 c_r_4 c_r_5 c_r_6 c_r_7 c_r_8
  go_wp2
  exact bodyPost_ret (v := .tuple #[.agg #[.int .i64 0, .slice none 0 0, .slice none 0 0, .int .i64 0, .int .i64 0, .int .i64 0, .int .i64 0, .slice none 0 0, .string ⟨#[]⟩], .int .i64 20]) (by simp [results, Tryd.results14, go_sem, m0, m1, m2, m3, m4, m5, m6, m7, m8]) rfl ⟨rfl, put9_below hB2 (by omega)⟩

set_option maxRecDepth 100000 in
set_option maxHeartbeats 8000000 in
theorem up_some (x : Ev) (vp vt vm : Value) (S H : Int) (w : World) (h : EvR w vp vt vm x) (hR : Ready w) (m : List P3) (HQ : Hid (Evt.right x = true)) (HL : Hid (Evt.lift S H x.ps = some m)) (n1 : x.ps.length ≤ 8) (n2 : x.ts.length ≤ 8) (n3 : x.ms.length ≤ 4) (HZ : Hid (Evt.right { x with ps := m } = true)) :
    Calls Tryd.prog 14 #[evv x vp vt vm, iv S H] w fun ed w' => EvResO ({ x with ps := m }, 0) w ed w' := by
  obtain ⟨k, ps, ts, b, d, n, e0, ms, str⟩ := x
  obtain ⟨hps, hts, hms, hsz⟩ := h
  dsimp only at hps hts hms hsz HQ HL n1 n2 n3 HZ ⊢
  have Hps := Lib.hid hps
  obtain ⟨pps, cps, rfl, lps⟩ := sl_shape hps
  have Hts := Lib.hid hts
  obtain ⟨pts, cts, rfl, lts⟩ := sl_shape hts
  have Hms := Lib.hid hms
  obtain ⟨pms, cms, rfl, lms⟩ := sl_shape hms
  clear hps hts hms
  have hB0 : Below w.heap.size w w := Below.refl _ _
  go_enter Tryd.func14, Tryd.ntmps14
  go_wp2_with fail
  have hR' := hR.below (((hB0.alloc hB0.size (.cells #[.int .i64 k, .slice pps ps.length cps, .slice pts ts.length cts, .int .i64 b, .int .i64 d, .int .i64 n, .int .i64 e0, .slice pms ms.length cms, .string str] 28)).alloc (hB0.alloc hB0.size (.cells #[.int .i64 k, .slice pps ps.length cps, .slice pts ts.length cts, .int .i64 b, .int .i64 d, .int .i64 n, .int .i64 e0, .slice pms ms.length cms, .string str] 28)).size (.cells #[.int .i64 S, .int .i64 H] 30)).alloc ((hB0.alloc hB0.size (.cells #[.int .i64 k, .slice pps ps.length cps, .slice pts ts.length cts, .int .i64 b, .int .i64 d, .int .i64 n, .int .i64 e0, .slice pms ms.length cms, .string str] 28)).alloc (hB0.alloc hB0.size (.cells #[.int .i64 k, .slice pps ps.length cps, .slice pts ts.length cts, .int .i64 b, .int .i64 d, .int .i64 n, .int .i64 e0, .slice pms ms.length cms, .string str] 28)).size (.cells #[.int .i64 S, .int .i64 H] 30)).size (.cells #[.int .i64 0, .slice none 0 0, .slice none 0 0, .int .i64 0, .int .i64 0, .int .i64 0, .int .i64 0, .slice none 0 0, .string ⟨#[]⟩] 28))
  refine (eright_is HQ.out _ _ _ _ ⟨Hps.out.later (by repeat (first | exact Below.refl _ _ | refine Below.alloc ?_ (by simp <;> omega) _)), Hts.out.later (by repeat (first | exact Below.refl _ _ | refine Below.alloc ?_ (by simp <;> omega) _)), Hms.out.later (by repeat (first | exact Below.refl _ _ | refine Below.alloc ?_ (by simp <;> omega) _)), hsz⟩ hR').mono ?_
  rintro e w1 ⟨rfl, hb1⟩
  clear hR'
  have hs1 : Below w.heap.size w w1 := Below.trans (by repeat (first | exact Below.refl _ _ | refine Below.alloc ?_ (by simp <;> omega) _)) (hb1.mono (by simp <;> omega))
  replace Hps := Lib.hid (Hps.out.later hs1)
  replace Hts := Lib.hid (Hts.out.later hs1)
  replace Hms := Lib.hid (Hms.out.later hs1)
  have c_e_0 : w1.cell? ⟨w.heap.size, 0, none⟩ = some (.int .i64 k) := (hb1.cell (by simp <;> omega)).trans (by go_simp)
  have f_e_0 : w1.frozen? ⟨w.heap.size, 0, none⟩ = false := (hb1.frozen (by simp <;> omega)).trans (by go_simp)
  have c_e_1 : w1.cell? ⟨w.heap.size, 1, none⟩ = some (.slice pps ps.length cps) := (hb1.cell (by simp <;> omega)).trans (by go_simp)
  have f_e_1 : w1.frozen? ⟨w.heap.size, 1, none⟩ = false := (hb1.frozen (by simp <;> omega)).trans (by go_simp)
  have c_e_2 : w1.cell? ⟨w.heap.size, 2, none⟩ = some (.slice pts ts.length cts) := (hb1.cell (by simp <;> omega)).trans (by go_simp)
  have f_e_2 : w1.frozen? ⟨w.heap.size, 2, none⟩ = false := (hb1.frozen (by simp <;> omega)).trans (by go_simp)
  have c_e_3 : w1.cell? ⟨w.heap.size, 3, none⟩ = some (.int .i64 b) := (hb1.cell (by simp <;> omega)).trans (by go_simp)
  have f_e_3 : w1.frozen? ⟨w.heap.size, 3, none⟩ = false := (hb1.frozen (by simp <;> omega)).trans (by go_simp)
  have c_e_4 : w1.cell? ⟨w.heap.size, 4, none⟩ = some (.int .i64 d) := (hb1.cell (by simp <;> omega)).trans (by go_simp)
  have f_e_4 : w1.frozen? ⟨w.heap.size, 4, none⟩ = false := (hb1.frozen (by simp <;> omega)).trans (by go_simp)
  have c_e_5 : w1.cell? ⟨w.heap.size, 5, none⟩ = some (.int .i64 n) := (hb1.cell (by simp <;> omega)).trans (by go_simp)
  have f_e_5 : w1.frozen? ⟨w.heap.size, 5, none⟩ = false := (hb1.frozen (by simp <;> omega)).trans (by go_simp)
  have c_e_6 : w1.cell? ⟨w.heap.size, 6, none⟩ = some (.int .i64 e0) := (hb1.cell (by simp <;> omega)).trans (by go_simp)
  have f_e_6 : w1.frozen? ⟨w.heap.size, 6, none⟩ = false := (hb1.frozen (by simp <;> omega)).trans (by go_simp)
  have c_e_7 : w1.cell? ⟨w.heap.size, 7, none⟩ = some (.slice pms ms.length cms) := (hb1.cell (by simp <;> omega)).trans (by go_simp)
  have f_e_7 : w1.frozen? ⟨w.heap.size, 7, none⟩ = false := (hb1.frozen (by simp <;> omega)).trans (by go_simp)
  have c_e_8 : w1.cell? ⟨w.heap.size, 8, none⟩ = some (.string str) := (hb1.cell (by simp <;> omega)).trans (by go_simp)
  have f_e_8 : w1.frozen? ⟨w.heap.size, 8, none⟩ = false := (hb1.frozen (by simp <;> omega)).trans (by go_simp)
  have c_i_0 : w1.cell? ⟨w.heap.size + 1, 0, none⟩ = some (.int .i64 S) := (hb1.cell (by simp <;> omega)).trans (by go_simp)
  have c_i_1 : w1.cell? ⟨w.heap.size + 1, 1, none⟩ = some (.int .i64 H) := (hb1.cell (by simp <;> omega)).trans (by go_simp)
  have c_r_0 : w1.cell? ⟨w.heap.size + 1 + 1, 0, none⟩ = some (.int .i64 0) := (hb1.cell (by simp <;> omega)).trans (by go_simp)
  have f_r_0 : w1.frozen? ⟨w.heap.size + 1 + 1, 0, none⟩ = false := (hb1.frozen (by simp <;> omega)).trans (by go_simp)
  have c_r_1 : w1.cell? ⟨w.heap.size + 1 + 1, 1, none⟩ = some (.slice none 0 0) := (hb1.cell (by simp <;> omega)).trans (by go_simp)
  have f_r_1 : w1.frozen? ⟨w.heap.size + 1 + 1, 1, none⟩ = false := (hb1.frozen (by simp <;> omega)).trans (by go_simp)
  have c_r_2 : w1.cell? ⟨w.heap.size + 1 + 1, 2, none⟩ = some (.slice none 0 0) := (hb1.cell (by simp <;> omega)).trans (by go_simp)
  have f_r_2 : w1.frozen? ⟨w.heap.size + 1 + 1, 2, none⟩ = false := (hb1.frozen (by simp <;> omega)).trans (by go_simp)
  have c_r_3 : w1.cell? ⟨w.heap.size + 1 + 1, 3, none⟩ = some (.int .i64 0) := (hb1.cell (by simp <;> omega)).trans (by go_simp)
  have f_r_3 : w1.frozen? ⟨w.heap.size + 1 + 1, 3, none⟩ = false := (hb1.frozen (by simp <;> omega)).trans (by go_simp)
  have c_r_4 : w1.cell? ⟨w.heap.size + 1 + 1, 4, none⟩ = some (.int .i64 0) := (hb1.cell (by simp <;> omega)).trans (by go_simp)
  have f_r_4 : w1.frozen? ⟨w.heap.size + 1 + 1, 4, none⟩ = false := (hb1.frozen (by simp <;> omega)).trans (by go_simp)
  have c_r_5 : w1.cell? ⟨w.heap.size + 1 + 1, 5, none⟩ = some (.int .i64 0) := (hb1.cell (by simp <;> omega)).trans (by go_simp)
  have f_r_5 : w1.frozen? ⟨w.heap.size + 1 + 1, 5, none⟩ = false := (hb1.frozen (by simp <;> omega)).trans (by go_simp)
  have c_r_6 : w1.cell? ⟨w.heap.size + 1 + 1, 6, none⟩ = some (.int .i64 0) := (hb1.cell (by simp <;> omega)).trans (by go_simp)
  have f_r_6 : w1.frozen? ⟨w.heap.size + 1 + 1, 6, none⟩ = false := (hb1.frozen (by simp <;> omega)).trans (by go_simp)
  have c_r_7 : w1.cell? ⟨w.heap.size + 1 + 1, 7, none⟩ = some (.slice none 0 0) := (hb1.cell (by simp <;> omega)).trans (by go_simp)
  have f_r_7 : w1.frozen? ⟨w.heap.size + 1 + 1, 7, none⟩ = false := (hb1.frozen (by simp <;> omega)).trans (by go_simp)
  have c_r_8 : w1.cell? ⟨w.heap.size + 1 + 1, 8, none⟩ = some (.string ⟨#[]⟩) := (hb1.cell (by simp <;> omega)).trans (by go_simp)
  have f_r_8 : w1.frozen? ⟨w.heap.size + 1 + 1, 8, none⟩ = false := (hb1.frozen (by simp <;> omega)).trans (by go_simp)
  have z_e := World.block_lt_of_cell? _ _ c_e_0
  have z_i := World.block_lt_of_cell? _ _ c_i_0
  have z_r := World.block_lt_of_cell? _ _ c_r_0
  have hB1 := below_two hB0 hs1
  clear hB0 hs1 hb1
  go_wp2_with fail
  have hR' := hR.below hB1
  have z_lq := z_e
  have z_lr := z_r
  refine (lifted_some HL.out _ Hps.out (by omega) hR').mono ?_
  rintro e w2 ⟨⟨vq, rfl, hvq, hoq⟩, hb2⟩
  clear hR'
  have hs2 := hb2
  replace Hps := Lib.hid (Hps.out.later hs2)
  replace Hts := Lib.hid (Hts.out.later hs2)
  replace Hms := Lib.hid (Hms.out.later hs2)
  replace f_e_0 := frozen_later hs2 c_e_0 f_e_0
  replace c_e_0 := cell_later hs2 c_e_0
  replace f_e_1 := frozen_later hs2 c_e_1 f_e_1
  replace c_e_1 := cell_later hs2 c_e_1
  replace f_e_2 := frozen_later hs2 c_e_2 f_e_2
  replace c_e_2 := cell_later hs2 c_e_2
  replace f_e_3 := frozen_later hs2 c_e_3 f_e_3
  replace c_e_3 := cell_later hs2 c_e_3
  replace f_e_4 := frozen_later hs2 c_e_4 f_e_4
  replace c_e_4 := cell_later hs2 c_e_4
  replace f_e_5 := frozen_later hs2 c_e_5 f_e_5
  replace c_e_5 := cell_later hs2 c_e_5
  replace f_e_6 := frozen_later hs2 c_e_6 f_e_6
  replace c_e_6 := cell_later hs2 c_e_6
  replace f_e_7 := frozen_later hs2 c_e_7 f_e_7
  replace c_e_7 := cell_later hs2 c_e_7
  replace f_e_8 := frozen_later hs2 c_e_8 f_e_8
  replace c_e_8 := cell_later hs2 c_e_8
  replace c_i_0 := cell_later hs2 c_i_0
  replace c_i_1 := cell_later hs2 c_i_1
  replace f_r_0 := frozen_later hs2 c_r_0 f_r_0
  replace c_r_0 := cell_later hs2 c_r_0
  replace f_r_1 := frozen_later hs2 c_r_1 f_r_1
  replace c_r_1 := cell_later hs2 c_r_1
  replace f_r_2 := frozen_later hs2 c_r_2 f_r_2
  replace c_r_2 := cell_later hs2 c_r_2
  replace f_r_3 := frozen_later hs2 c_r_3 f_r_3
  replace c_r_3 := cell_later hs2 c_r_3
  replace f_r_4 := frozen_later hs2 c_r_4 f_r_4
  replace c_r_4 := cell_later hs2 c_r_4
  replace f_r_5 := frozen_later hs2 c_r_5 f_r_5
  replace c_r_5 := cell_later hs2 c_r_5
  replace f_r_6 := frozen_later hs2 c_r_6 f_r_6
  replace c_r_6 := cell_later hs2 c_r_6
  replace f_r_7 := frozen_later hs2 c_r_7 f_r_7
  replace c_r_7 := cell_later hs2 c_r_7
  replace f_r_8 := frozen_later hs2 c_r_8 f_r_8
  replace c_r_8 := cell_later hs2 c_r_8
  clear z_e
  have z_e := World.block_lt_of_cell? _ _ c_e_0
  clear z_i
  have z_i := World.block_lt_of_cell? _ _ c_i_0
  clear z_r
  have z_r := World.block_lt_of_cell? _ _ c_r_0
  have hB2 := below_two hB1 hs2
  clear hB1 hs2
  have HOQ := Lib.hid hoq
  clear hoq
  have HVQ := Lib.hid hvq
  obtain ⟨pq, cq, rfl, lq⟩ := sl_shape hvq
  clear hvq
  go_wp2_with fail
  have HT1 : Hid (Bools w2.drew (.slice pts ts.length cts) ts) := Lib.hid (Hts.out.later (Below.refl _ _).drew)
  have HM1 : Hid (Ints w2.drew (.slice pms ms.length cms) ms) := Lib.hid (Hms.out.later (Below.refl _ _).drew)
  go_region_with (first
    | (go_at_call 40; refine (freshB_any _ ts _ HT1.out (by omega)).mono ?_; rintro e u1 ⟨⟨vt', rfl, hvt, hot⟩, hq1⟩; have HVT := Lib.hid hvt; have HOT := Lib.hid hot; obtain ⟨pt', ct', rfl, lt'⟩ := sl_shape hvt; clear hvt hot; have hz1 := hq1.size; have k_c_e_0 := cell_later hq1 (cell_drew c_e_0); have k_f_e_0 := frozen_later hq1 (cell_drew c_e_0) (frozen_drew f_e_0); have k_c_e_1 := cell_later hq1 (cell_drew c_e_1); have k_f_e_1 := frozen_later hq1 (cell_drew c_e_1) (frozen_drew f_e_1); have k_c_e_2 := cell_later hq1 (cell_drew c_e_2); have k_f_e_2 := frozen_later hq1 (cell_drew c_e_2) (frozen_drew f_e_2); have k_c_e_3 := cell_later hq1 (cell_drew c_e_3); have k_f_e_3 := frozen_later hq1 (cell_drew c_e_3) (frozen_drew f_e_3); have k_c_e_4 := cell_later hq1 (cell_drew c_e_4); have k_f_e_4 := frozen_later hq1 (cell_drew c_e_4) (frozen_drew f_e_4); have k_c_e_5 := cell_later hq1 (cell_drew c_e_5); have k_f_e_5 := frozen_later hq1 (cell_drew c_e_5) (frozen_drew f_e_5); have k_c_e_6 := cell_later hq1 (cell_drew c_e_6); have k_f_e_6 := frozen_later hq1 (cell_drew c_e_6) (frozen_drew f_e_6); have k_c_e_7 := cell_later hq1 (cell_drew c_e_7); have k_f_e_7 := frozen_later hq1 (cell_drew c_e_7) (frozen_drew f_e_7); have k_c_e_8 := cell_later hq1 (cell_drew c_e_8); have k_f_e_8 := frozen_later hq1 (cell_drew c_e_8) (frozen_drew f_e_8); have k_c_r_0 := cell_later hq1 (cell_drew c_r_0); have k_f_r_0 := frozen_later hq1 (cell_drew c_r_0) (frozen_drew f_r_0); have k_c_r_1 := cell_later hq1 (cell_drew c_r_1); have k_f_r_1 := frozen_later hq1 (cell_drew c_r_1) (frozen_drew f_r_1); have k_c_r_2 := cell_later hq1 (cell_drew c_r_2); have k_f_r_2 := frozen_later hq1 (cell_drew c_r_2) (frozen_drew f_r_2); have k_c_r_3 := cell_later hq1 (cell_drew c_r_3); have k_f_r_3 := frozen_later hq1 (cell_drew c_r_3) (frozen_drew f_r_3); have k_c_r_4 := cell_later hq1 (cell_drew c_r_4); have k_f_r_4 := frozen_later hq1 (cell_drew c_r_4) (frozen_drew f_r_4); have k_c_r_5 := cell_later hq1 (cell_drew c_r_5); have k_f_r_5 := frozen_later hq1 (cell_drew c_r_5) (frozen_drew f_r_5); have k_c_r_6 := cell_later hq1 (cell_drew c_r_6); have k_f_r_6 := frozen_later hq1 (cell_drew c_r_6) (frozen_drew f_r_6); have k_c_r_7 := cell_later hq1 (cell_drew c_r_7); have k_f_r_7 := frozen_later hq1 (cell_drew c_r_7) (frozen_drew f_r_7); have k_c_r_8 := cell_later hq1 (cell_drew c_r_8); have k_f_r_8 := frozen_later hq1 (cell_drew c_r_8) (frozen_drew f_r_8))
    | (go_at_call 41; refine (freshI_any _ ms _ (HM1.out.later hq1) (by omega)).mono ?_; rintro e u2 ⟨⟨vm', rfl, hvm, hom⟩, hq2⟩; have HVM := Lib.hid hvm; have HOM := Lib.hid hom; obtain ⟨pm', cm', rfl, lm'⟩ := sl_shape hvm; clear hvm hom; have hz2 := hq2.size; have l_c_e_0 := cell_later hq2 k_c_e_0; have l_f_e_0 := frozen_later hq2 k_c_e_0 k_f_e_0; have l_c_e_1 := cell_later hq2 k_c_e_1; have l_f_e_1 := frozen_later hq2 k_c_e_1 k_f_e_1; have l_c_e_2 := cell_later hq2 k_c_e_2; have l_f_e_2 := frozen_later hq2 k_c_e_2 k_f_e_2; have l_c_e_3 := cell_later hq2 k_c_e_3; have l_f_e_3 := frozen_later hq2 k_c_e_3 k_f_e_3; have l_c_e_4 := cell_later hq2 k_c_e_4; have l_f_e_4 := frozen_later hq2 k_c_e_4 k_f_e_4; have l_c_e_5 := cell_later hq2 k_c_e_5; have l_f_e_5 := frozen_later hq2 k_c_e_5 k_f_e_5; have l_c_e_6 := cell_later hq2 k_c_e_6; have l_f_e_6 := frozen_later hq2 k_c_e_6 k_f_e_6; have l_c_e_7 := cell_later hq2 k_c_e_7; have l_f_e_7 := frozen_later hq2 k_c_e_7 k_f_e_7; have l_c_e_8 := cell_later hq2 k_c_e_8; have l_f_e_8 := frozen_later hq2 k_c_e_8 k_f_e_8; have l_c_r_0 := cell_later hq2 k_c_r_0; have l_f_r_0 := frozen_later hq2 k_c_r_0 k_f_r_0; have l_c_r_1 := cell_later hq2 k_c_r_1; have l_f_r_1 := frozen_later hq2 k_c_r_1 k_f_r_1; have l_c_r_2 := cell_later hq2 k_c_r_2; have l_f_r_2 := frozen_later hq2 k_c_r_2 k_f_r_2; have l_c_r_3 := cell_later hq2 k_c_r_3; have l_f_r_3 := frozen_later hq2 k_c_r_3 k_f_r_3; have l_c_r_4 := cell_later hq2 k_c_r_4; have l_f_r_4 := frozen_later hq2 k_c_r_4 k_f_r_4; have l_c_r_5 := cell_later hq2 k_c_r_5; have l_f_r_5 := frozen_later hq2 k_c_r_5 k_f_r_5; have l_c_r_6 := cell_later hq2 k_c_r_6; have l_f_r_6 := frozen_later hq2 k_c_r_6 k_f_r_6; have l_c_r_7 := cell_later hq2 k_c_r_7; have l_f_r_7 := frozen_later hq2 k_c_r_7 k_f_r_7; have l_c_r_8 := cell_later hq2 k_c_r_8; have l_f_r_8 := frozen_later hq2 k_c_r_8 k_f_r_8))
  all_goals
    have zz1 : w.heap.size < u1.heap.size := Nat.lt_of_lt_of_le z_e hz1
    have zz2 : w.heap.size < u2.heap.size := Nat.lt_of_lt_of_le zz1 hz2
    have zr2 : w.heap.size + 1 + 1 < u2.heap.size := Nat.lt_of_lt_of_le z_r (Nat.le_trans hz1 hz2)
    have n_e_0 : (((u2.setCell ⟨w.heap.size, 1, none⟩ (.slice pq m.length cq)).setCell ⟨w.heap.size, 2, none⟩ (.slice pt' ts.length ct')).setCell ⟨w.heap.size, 7, none⟩ (.slice pm' ms.length cm')).cell? ⟨w.heap.size, 0, none⟩ = some (.int .i64 k) := set_beside (by decide) (set_beside (by decide) (set_beside (by decide) l_c_e_0))
    have n_r_0 : (((u2.setCell ⟨w.heap.size, 1, none⟩ (.slice pq m.length cq)).setCell ⟨w.heap.size, 2, none⟩ (.slice pt' ts.length ct')).setCell ⟨w.heap.size, 7, none⟩ (.slice pm' ms.length cm')).cell? ⟨w.heap.size + 1 + 1, 0, none⟩ = some (.int .i64 0) := set_far (by omega) (set_far (by omega) (set_far (by omega) l_c_r_0))
    have nf_r_0 : (((u2.setCell ⟨w.heap.size, 1, none⟩ (.slice pq m.length cq)).setCell ⟨w.heap.size, 2, none⟩ (.slice pt' ts.length ct')).setCell ⟨w.heap.size, 7, none⟩ (.slice pm' ms.length cm')).frozen? ⟨w.heap.size + 1 + 1, 0, none⟩ = false := set_frozen (set_frozen (set_frozen l_f_r_0))
    have n_e_1 : (((u2.setCell ⟨w.heap.size, 1, none⟩ (.slice pq m.length cq)).setCell ⟨w.heap.size, 2, none⟩ (.slice pt' ts.length ct')).setCell ⟨w.heap.size, 7, none⟩ (.slice pm' ms.length cm')).cell? ⟨w.heap.size, 1, none⟩ = some (.slice pq m.length cq) := set_beside (by decide) (set_beside (by decide) (set_same (held_of l_c_e_1)))
    have n_r_1 : (((u2.setCell ⟨w.heap.size, 1, none⟩ (.slice pq m.length cq)).setCell ⟨w.heap.size, 2, none⟩ (.slice pt' ts.length ct')).setCell ⟨w.heap.size, 7, none⟩ (.slice pm' ms.length cm')).cell? ⟨w.heap.size + 1 + 1, 1, none⟩ = some (.slice none 0 0) := set_far (by omega) (set_far (by omega) (set_far (by omega) l_c_r_1))
    have nf_r_1 : (((u2.setCell ⟨w.heap.size, 1, none⟩ (.slice pq m.length cq)).setCell ⟨w.heap.size, 2, none⟩ (.slice pt' ts.length ct')).setCell ⟨w.heap.size, 7, none⟩ (.slice pm' ms.length cm')).frozen? ⟨w.heap.size + 1 + 1, 1, none⟩ = false := set_frozen (set_frozen (set_frozen l_f_r_1))
    have n_e_2 : (((u2.setCell ⟨w.heap.size, 1, none⟩ (.slice pq m.length cq)).setCell ⟨w.heap.size, 2, none⟩ (.slice pt' ts.length ct')).setCell ⟨w.heap.size, 7, none⟩ (.slice pm' ms.length cm')).cell? ⟨w.heap.size, 2, none⟩ = some (.slice pt' ts.length ct') := set_beside (by decide) (set_same (set_held (held_of l_c_e_2)))
    have n_r_2 : (((u2.setCell ⟨w.heap.size, 1, none⟩ (.slice pq m.length cq)).setCell ⟨w.heap.size, 2, none⟩ (.slice pt' ts.length ct')).setCell ⟨w.heap.size, 7, none⟩ (.slice pm' ms.length cm')).cell? ⟨w.heap.size + 1 + 1, 2, none⟩ = some (.slice none 0 0) := set_far (by omega) (set_far (by omega) (set_far (by omega) l_c_r_2))
    have nf_r_2 : (((u2.setCell ⟨w.heap.size, 1, none⟩ (.slice pq m.length cq)).setCell ⟨w.heap.size, 2, none⟩ (.slice pt' ts.length ct')).setCell ⟨w.heap.size, 7, none⟩ (.slice pm' ms.length cm')).frozen? ⟨w.heap.size + 1 + 1, 2, none⟩ = false := set_frozen (set_frozen (set_frozen l_f_r_2))
    have n_e_3 : (((u2.setCell ⟨w.heap.size, 1, none⟩ (.slice pq m.length cq)).setCell ⟨w.heap.size, 2, none⟩ (.slice pt' ts.length ct')).setCell ⟨w.heap.size, 7, none⟩ (.slice pm' ms.length cm')).cell? ⟨w.heap.size, 3, none⟩ = some (.int .i64 b) := set_beside (by decide) (set_beside (by decide) (set_beside (by decide) l_c_e_3))
    have n_r_3 : (((u2.setCell ⟨w.heap.size, 1, none⟩ (.slice pq m.length cq)).setCell ⟨w.heap.size, 2, none⟩ (.slice pt' ts.length ct')).setCell ⟨w.heap.size, 7, none⟩ (.slice pm' ms.length cm')).cell? ⟨w.heap.size + 1 + 1, 3, none⟩ = some (.int .i64 0) := set_far (by omega) (set_far (by omega) (set_far (by omega) l_c_r_3))
    have nf_r_3 : (((u2.setCell ⟨w.heap.size, 1, none⟩ (.slice pq m.length cq)).setCell ⟨w.heap.size, 2, none⟩ (.slice pt' ts.length ct')).setCell ⟨w.heap.size, 7, none⟩ (.slice pm' ms.length cm')).frozen? ⟨w.heap.size + 1 + 1, 3, none⟩ = false := set_frozen (set_frozen (set_frozen l_f_r_3))
    have n_e_4 : (((u2.setCell ⟨w.heap.size, 1, none⟩ (.slice pq m.length cq)).setCell ⟨w.heap.size, 2, none⟩ (.slice pt' ts.length ct')).setCell ⟨w.heap.size, 7, none⟩ (.slice pm' ms.length cm')).cell? ⟨w.heap.size, 4, none⟩ = some (.int .i64 d) := set_beside (by decide) (set_beside (by decide) (set_beside (by decide) l_c_e_4))
    have n_r_4 : (((u2.setCell ⟨w.heap.size, 1, none⟩ (.slice pq m.length cq)).setCell ⟨w.heap.size, 2, none⟩ (.slice pt' ts.length ct')).setCell ⟨w.heap.size, 7, none⟩ (.slice pm' ms.length cm')).cell? ⟨w.heap.size + 1 + 1, 4, none⟩ = some (.int .i64 0) := set_far (by omega) (set_far (by omega) (set_far (by omega) l_c_r_4))
    have nf_r_4 : (((u2.setCell ⟨w.heap.size, 1, none⟩ (.slice pq m.length cq)).setCell ⟨w.heap.size, 2, none⟩ (.slice pt' ts.length ct')).setCell ⟨w.heap.size, 7, none⟩ (.slice pm' ms.length cm')).frozen? ⟨w.heap.size + 1 + 1, 4, none⟩ = false := set_frozen (set_frozen (set_frozen l_f_r_4))
    have n_e_5 : (((u2.setCell ⟨w.heap.size, 1, none⟩ (.slice pq m.length cq)).setCell ⟨w.heap.size, 2, none⟩ (.slice pt' ts.length ct')).setCell ⟨w.heap.size, 7, none⟩ (.slice pm' ms.length cm')).cell? ⟨w.heap.size, 5, none⟩ = some (.int .i64 n) := set_beside (by decide) (set_beside (by decide) (set_beside (by decide) l_c_e_5))
    have n_r_5 : (((u2.setCell ⟨w.heap.size, 1, none⟩ (.slice pq m.length cq)).setCell ⟨w.heap.size, 2, none⟩ (.slice pt' ts.length ct')).setCell ⟨w.heap.size, 7, none⟩ (.slice pm' ms.length cm')).cell? ⟨w.heap.size + 1 + 1, 5, none⟩ = some (.int .i64 0) := set_far (by omega) (set_far (by omega) (set_far (by omega) l_c_r_5))
    have nf_r_5 : (((u2.setCell ⟨w.heap.size, 1, none⟩ (.slice pq m.length cq)).setCell ⟨w.heap.size, 2, none⟩ (.slice pt' ts.length ct')).setCell ⟨w.heap.size, 7, none⟩ (.slice pm' ms.length cm')).frozen? ⟨w.heap.size + 1 + 1, 5, none⟩ = false := set_frozen (set_frozen (set_frozen l_f_r_5))
    have n_e_6 : (((u2.setCell ⟨w.heap.size, 1, none⟩ (.slice pq m.length cq)).setCell ⟨w.heap.size, 2, none⟩ (.slice pt' ts.length ct')).setCell ⟨w.heap.size, 7, none⟩ (.slice pm' ms.length cm')).cell? ⟨w.heap.size, 6, none⟩ = some (.int .i64 e0) := set_beside (by decide) (set_beside (by decide) (set_beside (by decide) l_c_e_6))
    have n_r_6 : (((u2.setCell ⟨w.heap.size, 1, none⟩ (.slice pq m.length cq)).setCell ⟨w.heap.size, 2, none⟩ (.slice pt' ts.length ct')).setCell ⟨w.heap.size, 7, none⟩ (.slice pm' ms.length cm')).cell? ⟨w.heap.size + 1 + 1, 6, none⟩ = some (.int .i64 0) := set_far (by omega) (set_far (by omega) (set_far (by omega) l_c_r_6))
    have nf_r_6 : (((u2.setCell ⟨w.heap.size, 1, none⟩ (.slice pq m.length cq)).setCell ⟨w.heap.size, 2, none⟩ (.slice pt' ts.length ct')).setCell ⟨w.heap.size, 7, none⟩ (.slice pm' ms.length cm')).frozen? ⟨w.heap.size + 1 + 1, 6, none⟩ = false := set_frozen (set_frozen (set_frozen l_f_r_6))
    have n_e_7 : (((u2.setCell ⟨w.heap.size, 1, none⟩ (.slice pq m.length cq)).setCell ⟨w.heap.size, 2, none⟩ (.slice pt' ts.length ct')).setCell ⟨w.heap.size, 7, none⟩ (.slice pm' ms.length cm')).cell? ⟨w.heap.size, 7, none⟩ = some (.slice pm' ms.length cm') := set_same (set_held (set_held (held_of l_c_e_7)))
    have n_r_7 : (((u2.setCell ⟨w.heap.size, 1, none⟩ (.slice pq m.length cq)).setCell ⟨w.heap.size, 2, none⟩ (.slice pt' ts.length ct')).setCell ⟨w.heap.size, 7, none⟩ (.slice pm' ms.length cm')).cell? ⟨w.heap.size + 1 + 1, 7, none⟩ = some (.slice none 0 0) := set_far (by omega) (set_far (by omega) (set_far (by omega) l_c_r_7))
    have nf_r_7 : (((u2.setCell ⟨w.heap.size, 1, none⟩ (.slice pq m.length cq)).setCell ⟨w.heap.size, 2, none⟩ (.slice pt' ts.length ct')).setCell ⟨w.heap.size, 7, none⟩ (.slice pm' ms.length cm')).frozen? ⟨w.heap.size + 1 + 1, 7, none⟩ = false := set_frozen (set_frozen (set_frozen l_f_r_7))
    have n_e_8 : (((u2.setCell ⟨w.heap.size, 1, none⟩ (.slice pq m.length cq)).setCell ⟨w.heap.size, 2, none⟩ (.slice pt' ts.length ct')).setCell ⟨w.heap.size, 7, none⟩ (.slice pm' ms.length cm')).cell? ⟨w.heap.size, 8, none⟩ = some (.string str) := set_beside (by decide) (set_beside (by decide) (set_beside (by decide) l_c_e_8))
    have n_r_8 : (((u2.setCell ⟨w.heap.size, 1, none⟩ (.slice pq m.length cq)).setCell ⟨w.heap.size, 2, none⟩ (.slice pt' ts.length ct')).setCell ⟨w.heap.size, 7, none⟩ (.slice pm' ms.length cm')).cell? ⟨w.heap.size + 1 + 1, 8, none⟩ = some (.string ⟨#[]⟩) := set_far (by omega) (set_far (by omega) (set_far (by omega) l_c_r_8))
    have nf_r_8 : (((u2.setCell ⟨w.heap.size, 1, none⟩ (.slice pq m.length cq)).setCell ⟨w.heap.size, 2, none⟩ (.slice pt' ts.length ct')).setCell ⟨w.heap.size, 7, none⟩ (.slice pm' ms.length cm')).frozen? ⟨w.heap.size + 1 + 1, 8, none⟩ = false := set_frozen (set_frozen (set_frozen l_f_r_8))
    have hD : Below w2.heap.size w2 u1 := below_two (Below.refl _ _).drew hq1
    have N1 : Hid (Pits (((u2.setCell ⟨w.heap.size, 1, none⟩ (.slice pq m.length cq)).setCell ⟨w.heap.size, 2, none⟩ (.slice pt' ts.length ct')).setCell ⟨w.heap.size, 7, none⟩ (.slice pm' ms.length cm')) (.slice pq m.length cq) m) := Lib.hid (((((HVQ.out.later hD).later hq2).set HOQ.out z_lq).set HOQ.out z_lq).set HOQ.out z_lq)
    have N2 : Hid (Bools (((u2.setCell ⟨w.heap.size, 1, none⟩ (.slice pq m.length cq)).setCell ⟨w.heap.size, 2, none⟩ (.slice pt' ts.length ct')).setCell ⟨w.heap.size, 7, none⟩ (.slice pm' ms.length cm')) (.slice pt' ts.length ct') ts) := Lib.hid ((((HVT.out.later hq2).set HOT.out z_e).set HOT.out z_e).set HOT.out z_e)
    have N3 : Hid (Ints (((u2.setCell ⟨w.heap.size, 1, none⟩ (.slice pq m.length cq)).setCell ⟨w.heap.size, 2, none⟩ (.slice pt' ts.length ct')).setCell ⟨w.heap.size, 7, none⟩ (.slice pm' ms.length cm')) (.slice pm' ms.length cm') ms) := Lib.hid (((HVM.out.set HOM.out zz1).set HOM.out zz1).set HOM.out zz1)
    have HO1 : Hid (Own (w.heap.size + 1 + 1 + 1) (.slice pq m.length cq)) := Lib.hid (HOQ.out.mono z_lr)
    have HO2 : Hid (Own (w.heap.size + 1 + 1 + 1) (.slice pt' ts.length ct')) := Lib.hid (HOT.out.mono z_r)
    have HO3 : Hid (Own (w.heap.size + 1 + 1 + 1) (.slice pm' ms.length cm')) := Lib.hid (HOM.out.mono (Nat.lt_of_lt_of_le z_r hz1))
    have hB9 : Below w.heap.size w (((u2.setCell ⟨w.heap.size, 1, none⟩ (.slice pq m.length cq)).setCell ⟨w.heap.size, 2, none⟩ (.slice pt' ts.length ct')).setCell ⟨w.heap.size, 7, none⟩ (.slice pm' ms.length cm')) := set1_below (set1_below (set1_below (below_two (below_two hB2 hD) hq2) (Nat.le_refl _)) (Nat.le_refl _)) (Nat.le_refl _)
    clear k_c_e_0 l_c_e_0 k_f_e_0 l_f_e_0 c_e_0 f_e_0 k_c_e_1 l_c_e_1 k_f_e_1 l_f_e_1 c_e_1 f_e_1 k_c_e_2 l_c_e_2 k_f_e_2 l_f_e_2 c_e_2 f_e_2 k_c_e_3 l_c_e_3 k_f_e_3 l_f_e_3 c_e_3 f_e_3 k_c_e_4 l_c_e_4 k_f_e_4 l_f_e_4 c_e_4 f_e_4 k_c_e_5 l_c_e_5 k_f_e_5 l_f_e_5 c_e_5 f_e_5 k_c_e_6 l_c_e_6 k_f_e_6 l_f_e_6 c_e_6 f_e_6 k_c_e_7 l_c_e_7 k_f_e_7 l_f_e_7 c_e_7 f_e_7 k_c_e_8 l_c_e_8 k_f_e_8 l_f_e_8 c_e_8 f_e_8 k_c_r_0 l_c_r_0 k_f_r_0 l_f_r_0 c_r_0 f_r_0 k_c_r_1 l_c_r_1 k_f_r_1 l_f_r_1 c_r_1 f_r_1 k_c_r_2 l_c_r_2 k_f_r_2 l_f_r_2 c_r_2 f_r_2 k_c_r_3 l_c_r_3 k_f_r_3 l_f_r_3 c_r_3 f_r_3 k_c_r_4 l_c_r_4 k_f_r_4 l_f_r_4 c_r_4 f_r_4 k_c_r_5 l_c_r_5 k_f_r_5 l_f_r_5 c_r_5 f_r_5 k_c_r_6 l_c_r_6 k_f_r_6 l_f_r_6 c_r_6 f_r_6 k_c_r_7 l_c_r_7 k_f_r_7 l_f_r_7 c_r_7 f_r_7 k_c_r_8 l_c_r_8 k_f_r_8 l_f_r_8 c_r_8 f_r_8 hq1 hq2 hD hz1 hz2 zz1 zz2 zr2 z_e z_r z_i hB2 c_i_0 c_i_1 HVQ HVT HVM Hps Hts Hms HT1 HM1 z_lq z_lr HOQ HOT HOM
    generalize (((u2.setCell ⟨w.heap.size, 1, none⟩ (.slice pq m.length cq)).setCell ⟨w.heap.size, 2, none⟩ (.slice pt' ts.length ct')).setCell ⟨w.heap.size, 7, none⟩ (.slice pm' ms.length cm')) = w9 at *
    have c_e_0 := n_e_0
    have c_r_0 := n_r_0
    have f_r_0 := nf_r_0
    clear n_e_0 n_r_0 nf_r_0
    have c_e_1 := n_e_1
    have c_r_1 := n_r_1
    have f_r_1 := nf_r_1
    clear n_e_1 n_r_1 nf_r_1
    have c_e_2 := n_e_2
    have c_r_2 := n_r_2
    have f_r_2 := nf_r_2
    clear n_e_2 n_r_2 nf_r_2
    have c_e_3 := n_e_3
    have c_r_3 := n_r_3
    have f_r_3 := nf_r_3
    clear n_e_3 n_r_3 nf_r_3
    have c_e_4 := n_e_4
    have c_r_4 := n_r_4
    have f_r_4 := nf_r_4
    clear n_e_4 n_r_4 nf_r_4
    have c_e_5 := n_e_5
    have c_r_5 := n_r_5
    have f_r_5 := nf_r_5
    clear n_e_5 n_r_5 nf_r_5
    have c_e_6 := n_e_6
    have c_r_6 := n_r_6
    have f_r_6 := nf_r_6
    clear n_e_6 n_r_6 nf_r_6
    have c_e_7 := n_e_7
    have c_r_7 := n_r_7
    have f_r_7 := nf_r_7
    clear n_e_7 n_r_7 nf_r_7
    have c_e_8 := n_e_8
    have c_r_8 := n_r_8
    have f_r_8 := nf_r_8
    clear n_e_8 n_r_8 nf_r_8
    have z_e := World.block_lt_of_cell? _ _ c_e_0
    have z_r := World.block_lt_of_cell? _ _ c_r_0
    go_wp2_with fail
    have hR' := hR.below hB9
    refine (rightAlone_yes ⟨k, m, ts, b, d, n, e0, ms, str⟩ _ _ _ _ ⟨N1.out, N2.out, N3.out, hsz⟩ hR' HZ).mono ?_
    rintro e w10 ⟨rfl, hb10⟩
    clear hR'
    have hs10 := hb10
    replace N1 := Lib.hid (N1.out.later hs10)
    replace N2 := Lib.hid (N2.out.later hs10)
    replace N3 := Lib.hid (N3.out.later hs10)
    replace c_e_0 := cell_later hs10 c_e_0
    replace c_e_1 := cell_later hs10 c_e_1
    replace c_e_2 := cell_later hs10 c_e_2
    replace c_e_3 := cell_later hs10 c_e_3
    replace c_e_4 := cell_later hs10 c_e_4
    replace c_e_5 := cell_later hs10 c_e_5
    replace c_e_6 := cell_later hs10 c_e_6
    replace c_e_7 := cell_later hs10 c_e_7
    replace c_e_8 := cell_later hs10 c_e_8
    replace f_r_0 := frozen_later hs10 c_r_0 f_r_0
    replace c_r_0 := cell_later hs10 c_r_0
    replace f_r_1 := frozen_later hs10 c_r_1 f_r_1
    replace c_r_1 := cell_later hs10 c_r_1
    replace f_r_2 := frozen_later hs10 c_r_2 f_r_2
    replace c_r_2 := cell_later hs10 c_r_2
    replace f_r_3 := frozen_later hs10 c_r_3 f_r_3
    replace c_r_3 := cell_later hs10 c_r_3
    replace f_r_4 := frozen_later hs10 c_r_4 f_r_4
    replace c_r_4 := cell_later hs10 c_r_4
    replace f_r_5 := frozen_later hs10 c_r_5 f_r_5
    replace c_r_5 := cell_later hs10 c_r_5
    replace f_r_6 := frozen_later hs10 c_r_6 f_r_6
    replace c_r_6 := cell_later hs10 c_r_6
    replace f_r_7 := frozen_later hs10 c_r_7 f_r_7
    replace c_r_7 := cell_later hs10 c_r_7
    replace f_r_8 := frozen_later hs10 c_r_8 f_r_8
    replace c_r_8 := cell_later hs10 c_r_8
    clear z_e
    have z_e := World.block_lt_of_cell? _ _ c_e_0
    clear z_r
    have z_r := World.block_lt_of_cell? _ _ c_r_0
    have hB10 := below_two hB9 hs10
    clear hB9 hs10
    obtain ⟨m0, m1, m2, m3, m4, m5, m6, m7, m8⟩ := put9_of (x0 := .int .i64 k) (x1 := .slice pq m.length cq) (x2 := .slice pt' ts.length ct') (x3 := .int .i64 b) (x4 := .int .i64 d) (x5 := .int .i64 n) (x6 := .int .i64 e0) (x7 := .slice pm' ms.length cm') (x8 := .string str) c_r_0 c_r_1 c_r_2 c_r_3 c_r_4 c_r_5 c_r_6 c_r_7 c_r_8
    go_wp2
    exact bodyPost_ret (v := .tuple #[.agg #[.int .i64 k, .slice pq m.length cq, .slice pt' ts.length ct', .int .i64 b, .int .i64 d, .int .i64 n, .int .i64 e0, .slice pm' ms.length cm', .string str], .int .i64 0]) (by simp [results, Tryd.results14, go_sem, m0, m1, m2, m3, m4, m5, m6, m7, m8]) rfl ⟨_, _, _, rfl, put9_evr ⟨N1.out, N2.out, N3.out, hsz⟩ HO1.out HO2.out HO3.out, ⟨HO1.out.mono (by omega), HO2.out.mono (by omega), HO3.out.mono (by omega)⟩, put9_below hB10 (by omega)⟩

theorem eup_own (x : Ev) (vp vt vm : Value) (S H : Int) (w : World) (h : EvR w vp vt vm x) (hR : Ready w) : Calls Tryd.prog 14 #[evv x vp vt vm, iv S H] w (EvResO (Evt.upE S H x) w) := by
  cases hr : Evt.right x
  · have e : Evt.upE S H x = (Evt.zero, 60) := by unfold Evt.upE; rw [hr]; rfl
    rw [e]
    exact (up_no x vp vt vm S H w h hR (Lib.hid hr)).mono fun _ _ ⟨a, b⟩ => evResO_zero a b
  · have hx := (Evt.right_iff x).1 hr
    have n1 := hx.max8
    have n2 : x.ts.length ≤ 8 := by rw [hx.len]; exact n1
    rw [Evt.upE_right hx]
    cases hl : Evt.lift S H x.ps with
    | none => exact (up_none x vp vt vm S H w h hR (Lib.hid hr) (Lib.hid hl) n1).mono fun _ _ ⟨a, b⟩ => evResO_zero a b
    | some m => exact up_some x vp vt vm S H w h hR m (Lib.hid hr) (Lib.hid hl) n1 n2 hx.ms4 (Lib.hid ((Evt.right_iff _).2 (Evt.lift_isR hx hl)))
theorem eup_any (x : Ev) (vp vt vm : Value) (S H : Int) (w : World) (h : EvR w vp vt vm x) (hR : Ready w) : Calls Tryd.prog 14 #[evv x vp vt vm, iv S H] w (EvRes (Evt.upE S H x) w) := (eup_own x vp vt vm S H w h hR).mono fun _ _ h => h.res
theorem eup_isO {x y : Ev} {e S H : Int} (hq : Evt.upE S H x = (y, e)) (vp vt vm : Value) (w : World) (h : EvR w vp vt vm x) (hR : Ready w) : Calls Tryd.prog 14 #[evv x vp vt vm, iv S H] w (EvResO (y, e) w) := by rw [← hq]; exact eup_own x vp vt vm S H w h hR
theorem eup_is {x y : Ev} {e S H : Int} (hq : Evt.upE S H x = (y, e)) (vp vt vm : Value) (w : World) (h : EvR w vp vt vm x) (hR : Ready w) : Calls Tryd.prog 14 #[evv x vp vt vm, iv S H] w (EvRes (y, e) w) := by rw [← hq]; exact eup_any x vp vt vm S H w h hR
end Go.Proofs.YtnfnonlbokddfaaDoor
