/-
  The contracts of event.rightAlone, Length, Same, Tied.
-/
import Derived.Test.YtnfnonlbokddfaaDoorEvE
namespace Go.Proofs.YtnfnonlbokddfaaDoor
open Go.RowKit

open Evt (P3 Ev)
/-- The empty event, as a value. -/
abbrev evz : Value := .agg #[.int .i64 0, .slice none 0 0, .slice none 0 0, .int .i64 0, .int .i64 0, .int .i64 0, .int .i64 0, .slice none 0 0, .string ⟨#[]⟩]
abbrev put9 (w : World) (B : Nat) (x0 x1 x2 x3 x4 x5 x6 x7 x8 : Value) : World := ((((((((w.setCell ⟨B, 0, none⟩ x0).setCell ⟨B, 1, none⟩ x1).setCell ⟨B, 2, none⟩ x2).setCell ⟨B, 3, none⟩ x3).setCell ⟨B, 4, none⟩ x4).setCell ⟨B, 5, none⟩ x5).setCell ⟨B, 6, none⟩ x6).setCell ⟨B, 7, none⟩ x7).setCell ⟨B, 8, none⟩ x8
theorem put9_of {w : World} {B : Nat} {x0 x1 x2 x3 x4 x5 x6 x7 x8 v0 v1 v2 v3 v4 v5 v6 v7 v8 : Value} (h0 : w.cell? ⟨B, 0, none⟩ = some v0) (h1 : w.cell? ⟨B, 1, none⟩ = some v1) (h2 : w.cell? ⟨B, 2, none⟩ = some v2) (h3 : w.cell? ⟨B, 3, none⟩ = some v3) (h4 : w.cell? ⟨B, 4, none⟩ = some v4) (h5 : w.cell? ⟨B, 5, none⟩ = some v5) (h6 : w.cell? ⟨B, 6, none⟩ = some v6) (h7 : w.cell? ⟨B, 7, none⟩ = some v7) (h8 : w.cell? ⟨B, 8, none⟩ = some v8) :
    (put9 w B x0 x1 x2 x3 x4 x5 x6 x7 x8).cell? ⟨B, 0, none⟩ = some x0 ∧ (put9 w B x0 x1 x2 x3 x4 x5 x6 x7 x8).cell? ⟨B, 1, none⟩ = some x1 ∧ (put9 w B x0 x1 x2 x3 x4 x5 x6 x7 x8).cell? ⟨B, 2, none⟩ = some x2 ∧ (put9 w B x0 x1 x2 x3 x4 x5 x6 x7 x8).cell? ⟨B, 3, none⟩ = some x3 ∧ (put9 w B x0 x1 x2 x3 x4 x5 x6 x7 x8).cell? ⟨B, 4, none⟩ = some x4 ∧ (put9 w B x0 x1 x2 x3 x4 x5 x6 x7 x8).cell? ⟨B, 5, none⟩ = some x5 ∧ (put9 w B x0 x1 x2 x3 x4 x5 x6 x7 x8).cell? ⟨B, 6, none⟩ = some x6 ∧ (put9 w B x0 x1 x2 x3 x4 x5 x6 x7 x8).cell? ⟨B, 7, none⟩ = some x7 ∧ (put9 w B x0 x1 x2 x3 x4 x5 x6 x7 x8).cell? ⟨B, 8, none⟩ = some x8 :=
  ⟨set_beside (by decide) (set_beside (by decide) (set_beside (by decide) (set_beside (by decide) (set_beside (by decide) (set_beside (by decide) (set_beside (by decide) (set_beside (by decide) (set_same (held_of h0))))))))), set_beside (by decide) (set_beside (by decide) (set_beside (by decide) (set_beside (by decide) (set_beside (by decide) (set_beside (by decide) (set_beside (by decide) (set_same (set_held (held_of h1))))))))), set_beside (by decide) (set_beside (by decide) (set_beside (by decide) (set_beside (by decide) (set_beside (by decide) (set_beside (by decide) (set_same (set_held (set_held (held_of h2))))))))), set_beside (by decide) (set_beside (by decide) (set_beside (by decide) (set_beside (by decide) (set_beside (by decide) (set_same (set_held (set_held (set_held (held_of h3))))))))), set_beside (by decide) (set_beside (by decide) (set_beside (by decide) (set_beside (by decide) (set_same (set_held (set_held (set_held (set_held (held_of h4))))))))), set_beside (by decide) (set_beside (by decide) (set_beside (by decide) (set_same (set_held (set_held (set_held (set_held (set_held (held_of h5))))))))), set_beside (by decide) (set_beside (by decide) (set_same (set_held (set_held (set_held (set_held (set_held (set_held (held_of h6))))))))), set_beside (by decide) (set_same (set_held (set_held (set_held (set_held (set_held (set_held (set_held (held_of h7))))))))), set_same (set_held (set_held (set_held (set_held (set_held (set_held (set_held (set_held (held_of h8)))))))))⟩
theorem put9_below {n B : Nat} {w W : World} {x0 x1 x2 x3 x4 x5 x6 x7 x8 : Value} (h : Below n w W) (hB : n ≤ B) : Below n w (put9 W B x0 x1 x2 x3 x4 x5 x6 x7 x8) := (((((((((h.setCell hB _).setCell hB _).setCell hB _).setCell hB _).setCell hB _).setCell hB _).setCell hB _).setCell hB _).setCell hB _)

set_option maxRecDepth 100000 in
set_option maxHeartbeats 4000000 in
theorem rightAlone_no (x : Ev) (vp vt vm : Value) (w : World) (h : EvR w vp vt vm x) (hR : Ready w) (HQ : Hid (Evt.right x = false)) :
    Calls Tryd.prog 42 #[evv x vp vt vm] w fun ed w' => ed = .returned (.tuple #[evz, .int .i64 60]) ∧ Below w.heap.size w w' := by
  obtain ⟨k, ps, ts, b, d, n, e0, ms, str⟩ := x
  obtain ⟨hps, hts, hms, hsz⟩ := h
  dsimp only at hps hts hms hsz HQ ⊢
  have Hps := Lib.hid hps
  obtain ⟨pps, cps, rfl, lps⟩ := sl_shape hps
  have Hts := Lib.hid hts
  obtain ⟨pts, cts, rfl, lts⟩ := sl_shape hts
  have Hms := Lib.hid hms
  obtain ⟨pms, cms, rfl, lms⟩ := sl_shape hms
  clear hps hts hms
  have hB0 : Below w.heap.size w w := Below.refl _ _
  go_enter Tryd.func42, Tryd.ntmps42
  go_wp2_with fail
  have hR' := hR.below ((hB0.alloc hB0.size (.cells #[.int .i64 k, .slice pps ps.length cps, .slice pts ts.length cts, .int .i64 b, .int .i64 d, .int .i64 n, .int .i64 e0, .slice pms ms.length cms, .string str] 28)).alloc (hB0.alloc hB0.size (.cells #[.int .i64 k, .slice pps ps.length cps, .slice pts ts.length cts, .int .i64 b, .int .i64 d, .int .i64 n, .int .i64 e0, .slice pms ms.length cms, .string str] 28)).size (.cells #[.int .i64 0, .slice none 0 0, .slice none 0 0, .int .i64 0, .int .i64 0, .int .i64 0, .int .i64 0, .slice none 0 0, .string ⟨#[]⟩] 28))
  refine (eright_is HQ.out _ _ _ _ ⟨Hps.out.later (by repeat (first | exact Below.refl _ _ | refine Below.alloc ?_ (by simp <;> omega) _)), Hts.out.later (by repeat (first | exact Below.refl _ _ | refine Below.alloc ?_ (by simp <;> omega) _)), Hms.out.later (by repeat (first | exact Below.refl _ _ | refine Below.alloc ?_ (by simp <;> omega) _)), hsz⟩ hR').mono ?_
  rintro e w1 ⟨rfl, hb1⟩
  clear hR'
  have hs1 : Below w.heap.size w w1 := Below.trans (by repeat (first | exact Below.refl _ _ | refine Below.alloc ?_ (by simp <;> omega) _)) (hb1.mono (by simp <;> omega))
  replace Hps := Lib.hid (Hps.out.later hs1)
  replace Hts := Lib.hid (Hts.out.later hs1)
  replace Hms := Lib.hid (Hms.out.later hs1)
  have c_e_0 : w1.cell? ⟨w.heap.size, 0, none⟩ = some (.int .i64 k) := (hb1.cell (by simp <;> omega)).trans (by go_simp)
  have c_e_1 : w1.cell? ⟨w.heap.size, 1, none⟩ = some (.slice pps ps.length cps) := (hb1.cell (by simp <;> omega)).trans (by go_simp)
  have c_e_2 : w1.cell? ⟨w.heap.size, 2, none⟩ = some (.slice pts ts.length cts) := (hb1.cell (by simp <;> omega)).trans (by go_simp)
  have c_e_3 : w1.cell? ⟨w.heap.size, 3, none⟩ = some (.int .i64 b) := (hb1.cell (by simp <;> omega)).trans (by go_simp)
  have c_e_4 : w1.cell? ⟨w.heap.size, 4, none⟩ = some (.int .i64 d) := (hb1.cell (by simp <;> omega)).trans (by go_simp)
  have c_e_5 : w1.cell? ⟨w.heap.size, 5, none⟩ = some (.int .i64 n) := (hb1.cell (by simp <;> omega)).trans (by go_simp)
  have c_e_6 : w1.cell? ⟨w.heap.size, 6, none⟩ = some (.int .i64 e0) := (hb1.cell (by simp <;> omega)).trans (by go_simp)
  have c_e_7 : w1.cell? ⟨w.heap.size, 7, none⟩ = some (.slice pms ms.length cms) := (hb1.cell (by simp <;> omega)).trans (by go_simp)
  have c_e_8 : w1.cell? ⟨w.heap.size, 8, none⟩ = some (.string str) := (hb1.cell (by simp <;> omega)).trans (by go_simp)
  have c_r_0 : w1.cell? ⟨w.heap.size + 1, 0, none⟩ = some (.int .i64 0) := (hb1.cell (by simp <;> omega)).trans (by go_simp)
  have f_r_0 : w1.frozen? ⟨w.heap.size + 1, 0, none⟩ = false := (hb1.frozen (by simp <;> omega)).trans (by go_simp)
  have c_r_1 : w1.cell? ⟨w.heap.size + 1, 1, none⟩ = some (.slice none 0 0) := (hb1.cell (by simp <;> omega)).trans (by go_simp)
  have f_r_1 : w1.frozen? ⟨w.heap.size + 1, 1, none⟩ = false := (hb1.frozen (by simp <;> omega)).trans (by go_simp)
  have c_r_2 : w1.cell? ⟨w.heap.size + 1, 2, none⟩ = some (.slice none 0 0) := (hb1.cell (by simp <;> omega)).trans (by go_simp)
  have f_r_2 : w1.frozen? ⟨w.heap.size + 1, 2, none⟩ = false := (hb1.frozen (by simp <;> omega)).trans (by go_simp)
  have c_r_3 : w1.cell? ⟨w.heap.size + 1, 3, none⟩ = some (.int .i64 0) := (hb1.cell (by simp <;> omega)).trans (by go_simp)
  have f_r_3 : w1.frozen? ⟨w.heap.size + 1, 3, none⟩ = false := (hb1.frozen (by simp <;> omega)).trans (by go_simp)
  have c_r_4 : w1.cell? ⟨w.heap.size + 1, 4, none⟩ = some (.int .i64 0) := (hb1.cell (by simp <;> omega)).trans (by go_simp)
  have f_r_4 : w1.frozen? ⟨w.heap.size + 1, 4, none⟩ = false := (hb1.frozen (by simp <;> omega)).trans (by go_simp)
  have c_r_5 : w1.cell? ⟨w.heap.size + 1, 5, none⟩ = some (.int .i64 0) := (hb1.cell (by simp <;> omega)).trans (by go_simp)
  have f_r_5 : w1.frozen? ⟨w.heap.size + 1, 5, none⟩ = false := (hb1.frozen (by simp <;> omega)).trans (by go_simp)
  have c_r_6 : w1.cell? ⟨w.heap.size + 1, 6, none⟩ = some (.int .i64 0) := (hb1.cell (by simp <;> omega)).trans (by go_simp)
  have f_r_6 : w1.frozen? ⟨w.heap.size + 1, 6, none⟩ = false := (hb1.frozen (by simp <;> omega)).trans (by go_simp)
  have c_r_7 : w1.cell? ⟨w.heap.size + 1, 7, none⟩ = some (.slice none 0 0) := (hb1.cell (by simp <;> omega)).trans (by go_simp)
  have f_r_7 : w1.frozen? ⟨w.heap.size + 1, 7, none⟩ = false := (hb1.frozen (by simp <;> omega)).trans (by go_simp)
  have c_r_8 : w1.cell? ⟨w.heap.size + 1, 8, none⟩ = some (.string ⟨#[]⟩) := (hb1.cell (by simp <;> omega)).trans (by go_simp)
  have f_r_8 : w1.frozen? ⟨w.heap.size + 1, 8, none⟩ = false := (hb1.frozen (by simp <;> omega)).trans (by go_simp)
  have z_e := World.block_lt_of_cell? _ _ c_e_0
  have z_r := World.block_lt_of_cell? _ _ c_r_0
  have hB1 := below_two hB0 hs1
  clear hB0 hs1 hb1
  obtain ⟨m0, m1, m2, m3, m4, m5, m6, m7, m8⟩ := put9_of (x0 := .int .i64 0) (x1 := .slice none 0 0) (x2 := .slice none 0 0) (x3 := .int .i64 0) (x4 := .int .i64 0) (x5 := .int .i64 0) (x6 := .int .i64 0) (x7 := .slice none 0 0) (x8 := .string ⟨#[]⟩) c_r_0 c_r_1 c_r_2 c_r_3 c_r_4 c_r_5 c_r_6 c_r_7 c_r_8
  go_wp2
  exact bodyPost_ret (v := .tuple #[.agg #[.int .i64 0, .slice none 0 0, .slice none 0 0, .int .i64 0, .int .i64 0, .int .i64 0, .int .i64 0, .slice none 0 0, .string ⟨#[]⟩], .int .i64 60]) (by simp [results, Tryd.results42, go_sem, m0, m1, m2, m3, m4, m5, m6, m7, m8]) rfl ⟨rfl, put9_below hB1 (by omega)⟩

set_option maxRecDepth 100000 in
set_option maxHeartbeats 4000000 in
theorem rightAlone_yes (x : Ev) (vp vt vm : Value) (w : World) (h : EvR w vp vt vm x) (hR : Ready w) (HQ : Hid (Evt.right x = true)) :
    Calls Tryd.prog 42 #[evv x vp vt vm] w fun ed w' => ed = .returned (.tuple #[evv x vp vt vm, .int .i64 0]) ∧ Below w.heap.size w w' := by
  obtain ⟨k, ps, ts, b, d, n, e0, ms, str⟩ := x
  obtain ⟨hps, hts, hms, hsz⟩ := h
  dsimp only at hps hts hms hsz HQ ⊢
  have Hps := Lib.hid hps
  obtain ⟨pps, cps, rfl, lps⟩ := sl_shape hps
  have Hts := Lib.hid hts
  obtain ⟨pts, cts, rfl, lts⟩ := sl_shape hts
  have Hms := Lib.hid hms
  obtain ⟨pms, cms, rfl, lms⟩ := sl_shape hms
  clear hps hts hms
  have hB0 : Below w.heap.size w w := Below.refl _ _
  go_enter Tryd.func42, Tryd.ntmps42
  go_wp2_with fail
  have hR' := hR.below ((hB0.alloc hB0.size (.cells #[.int .i64 k, .slice pps ps.length cps, .slice pts ts.length cts, .int .i64 b, .int .i64 d, .int .i64 n, .int .i64 e0, .slice pms ms.length cms, .string str] 28)).alloc (hB0.alloc hB0.size (.cells #[.int .i64 k, .slice pps ps.length cps, .slice pts ts.length cts, .int .i64 b, .int .i64 d, .int .i64 n, .int .i64 e0, .slice pms ms.length cms, .string str] 28)).size (.cells #[.int .i64 0, .slice none 0 0, .slice none 0 0, .int .i64 0, .int .i64 0, .int .i64 0, .int .i64 0, .slice none 0 0, .string ⟨#[]⟩] 28))
  refine (eright_is HQ.out _ _ _ _ ⟨Hps.out.later (by repeat (first | exact Below.refl _ _ | refine Below.alloc ?_ (by simp <;> omega) _)), Hts.out.later (by repeat (first | exact Below.refl _ _ | refine Below.alloc ?_ (by simp <;> omega) _)), Hms.out.later (by repeat (first | exact Below.refl _ _ | refine Below.alloc ?_ (by simp <;> omega) _)), hsz⟩ hR').mono ?_
  rintro e w1 ⟨rfl, hb1⟩
  clear hR'
  have hs1 : Below w.heap.size w w1 := Below.trans (by repeat (first | exact Below.refl _ _ | refine Below.alloc ?_ (by simp <;> omega) _)) (hb1.mono (by simp <;> omega))
  replace Hps := Lib.hid (Hps.out.later hs1)
  replace Hts := Lib.hid (Hts.out.later hs1)
  replace Hms := Lib.hid (Hms.out.later hs1)
  have c_e_0 : w1.cell? ⟨w.heap.size, 0, none⟩ = some (.int .i64 k) := (hb1.cell (by simp <;> omega)).trans (by go_simp)
  have c_e_1 : w1.cell? ⟨w.heap.size, 1, none⟩ = some (.slice pps ps.length cps) := (hb1.cell (by simp <;> omega)).trans (by go_simp)
  have c_e_2 : w1.cell? ⟨w.heap.size, 2, none⟩ = some (.slice pts ts.length cts) := (hb1.cell (by simp <;> omega)).trans (by go_simp)
  have c_e_3 : w1.cell? ⟨w.heap.size, 3, none⟩ = some (.int .i64 b) := (hb1.cell (by simp <;> omega)).trans (by go_simp)
  have c_e_4 : w1.cell? ⟨w.heap.size, 4, none⟩ = some (.int .i64 d) := (hb1.cell (by simp <;> omega)).trans (by go_simp)
  have c_e_5 : w1.cell? ⟨w.heap.size, 5, none⟩ = some (.int .i64 n) := (hb1.cell (by simp <;> omega)).trans (by go_simp)
  have c_e_6 : w1.cell? ⟨w.heap.size, 6, none⟩ = some (.int .i64 e0) := (hb1.cell (by simp <;> omega)).trans (by go_simp)
  have c_e_7 : w1.cell? ⟨w.heap.size, 7, none⟩ = some (.slice pms ms.length cms) := (hb1.cell (by simp <;> omega)).trans (by go_simp)
  have c_e_8 : w1.cell? ⟨w.heap.size, 8, none⟩ = some (.string str) := (hb1.cell (by simp <;> omega)).trans (by go_simp)
  have c_r_0 : w1.cell? ⟨w.heap.size + 1, 0, none⟩ = some (.int .i64 0) := (hb1.cell (by simp <;> omega)).trans (by go_simp)
  have f_r_0 : w1.frozen? ⟨w.heap.size + 1, 0, none⟩ = false := (hb1.frozen (by simp <;> omega)).trans (by go_simp)
  have c_r_1 : w1.cell? ⟨w.heap.size + 1, 1, none⟩ = some (.slice none 0 0) := (hb1.cell (by simp <;> omega)).trans (by go_simp)
  have f_r_1 : w1.frozen? ⟨w.heap.size + 1, 1, none⟩ = false := (hb1.frozen (by simp <;> omega)).trans (by go_simp)
  have c_r_2 : w1.cell? ⟨w.heap.size + 1, 2, none⟩ = some (.slice none 0 0) := (hb1.cell (by simp <;> omega)).trans (by go_simp)
  have f_r_2 : w1.frozen? ⟨w.heap.size + 1, 2, none⟩ = false := (hb1.frozen (by simp <;> omega)).trans (by go_simp)
  have c_r_3 : w1.cell? ⟨w.heap.size + 1, 3, none⟩ = some (.int .i64 0) := (hb1.cell (by simp <;> omega)).trans (by go_simp)
  have f_r_3 : w1.frozen? ⟨w.heap.size + 1, 3, none⟩ = false := (hb1.frozen (by simp <;> omega)).trans (by go_simp)
  have c_r_4 : w1.cell? ⟨w.heap.size + 1, 4, none⟩ = some (.int .i64 0) := (hb1.cell (by simp <;> omega)).trans (by go_simp)
  have f_r_4 : w1.frozen? ⟨w.heap.size + 1, 4, none⟩ = false := (hb1.frozen (by simp <;> omega)).trans (by go_simp)
  have c_r_5 : w1.cell? ⟨w.heap.size + 1, 5, none⟩ = some (.int .i64 0) := (hb1.cell (by simp <;> omega)).trans (by go_simp)
  have f_r_5 : w1.frozen? ⟨w.heap.size + 1, 5, none⟩ = false := (hb1.frozen (by simp <;> omega)).trans (by go_simp)
  have c_r_6 : w1.cell? ⟨w.heap.size + 1, 6, none⟩ = some (.int .i64 0) := (hb1.cell (by simp <;> omega)).trans (by go_simp)
  have f_r_6 : w1.frozen? ⟨w.heap.size + 1, 6, none⟩ = false := (hb1.frozen (by simp <;> omega)).trans (by go_simp)
  have c_r_7 : w1.cell? ⟨w.heap.size + 1, 7, none⟩ = some (.slice none 0 0) := (hb1.cell (by simp <;> omega)).trans (by go_simp)
  have f_r_7 : w1.frozen? ⟨w.heap.size + 1, 7, none⟩ = false := (hb1.frozen (by simp <;> omega)).trans (by go_simp)
  have c_r_8 : w1.cell? ⟨w.heap.size + 1, 8, none⟩ = some (.string ⟨#[]⟩) := (hb1.cell (by simp <;> omega)).trans (by go_simp)
  have f_r_8 : w1.frozen? ⟨w.heap.size + 1, 8, none⟩ = false := (hb1.frozen (by simp <;> omega)).trans (by go_simp)
  have z_e := World.block_lt_of_cell? _ _ c_e_0
  have z_r := World.block_lt_of_cell? _ _ c_r_0
  have hB1 := below_two hB0 hs1
  clear hB0 hs1 hb1
  obtain ⟨m0, m1, m2, m3, m4, m5, m6, m7, m8⟩ := put9_of (x0 := .int .i64 k) (x1 := .slice pps ps.length cps) (x2 := .slice pts ts.length cts) (x3 := .int .i64 b) (x4 := .int .i64 d) (x5 := .int .i64 n) (x6 := .int .i64 e0) (x7 := .slice pms ms.length cms) (x8 := .string str) c_r_0 c_r_1 c_r_2 c_r_3 c_r_4 c_r_5 c_r_6 c_r_7 c_r_8
  go_wp2
  exact bodyPost_ret (v := .tuple #[.agg #[.int .i64 k, .slice pps ps.length cps, .slice pts ts.length cts, .int .i64 b, .int .i64 d, .int .i64 n, .int .i64 e0, .slice pms ms.length cms, .string str], .int .i64 0]) (by simp [results, Tryd.results42, go_sem, m0, m1, m2, m3, m4, m5, m6, m7, m8]) rfl ⟨rfl, put9_below hB1 (by omega)⟩

set_option maxRecDepth 100000 in
set_option maxHeartbeats 4000000 in
theorem elength_no (x : Ev) (vp vt vm : Value) (w : World) (h : EvR w vp vt vm x) (hR : Ready w) (HQ : Hid (Evt.right x = false)) :
    Calls Tryd.prog 36 #[evv x vp vt vm] w fun ed w' => ed = .returned (rv 0 0 60) ∧ Below w.heap.size w w' := by
  obtain ⟨k, ps, ts, b, d, n, e0, ms, str⟩ := x
  obtain ⟨hps, hts, hms, hsz⟩ := h
  dsimp only at hps hts hms hsz HQ ⊢
  have Hps := Lib.hid hps
  obtain ⟨pps, cps, rfl, lps⟩ := sl_shape hps
  have Hts := Lib.hid hts
  obtain ⟨pts, cts, rfl, lts⟩ := sl_shape hts
  have Hms := Lib.hid hms
  obtain ⟨pms, cms, rfl, lms⟩ := sl_shape hms
  clear hps hts hms
  have hB0 : Below w.heap.size w w := Below.refl _ _
  go_enter Tryd.func36, Tryd.ntmps36
  go_wp2_with fail
  have hR' := hR.below ((hB0.alloc hB0.size (.cells #[.int .i64 k, .slice pps ps.length cps, .slice pts ts.length cts, .int .i64 b, .int .i64 d, .int .i64 n, .int .i64 e0, .slice pms ms.length cms, .string str] 28)).alloc (hB0.alloc hB0.size (.cells #[.int .i64 k, .slice pps ps.length cps, .slice pts ts.length cts, .int .i64 b, .int .i64 d, .int .i64 n, .int .i64 e0, .slice pms ms.length cms, .string str] 28)).size (.cells #[.int .i64 0, .int .i64 0] 52))
  refine (eright_is HQ.out _ _ _ _ ⟨Hps.out.later (by repeat (first | exact Below.refl _ _ | refine Below.alloc ?_ (by simp <;> omega) _)), Hts.out.later (by repeat (first | exact Below.refl _ _ | refine Below.alloc ?_ (by simp <;> omega) _)), Hms.out.later (by repeat (first | exact Below.refl _ _ | refine Below.alloc ?_ (by simp <;> omega) _)), hsz⟩ hR').mono ?_
  rintro e w1 ⟨rfl, hb1⟩
  clear hR'
  have hs1 : Below w.heap.size w w1 := Below.trans (by repeat (first | exact Below.refl _ _ | refine Below.alloc ?_ (by simp <;> omega) _)) (hb1.mono (by simp <;> omega))
  replace Hps := Lib.hid (Hps.out.later hs1)
  replace Hts := Lib.hid (Hts.out.later hs1)
  replace Hms := Lib.hid (Hms.out.later hs1)
  have c_e_0 : w1.cell? ⟨w.heap.size, 0, none⟩ = some (.int .i64 k) := (hb1.cell (by simp <;> omega)).trans (by go_simp)
  have c_e_1 : w1.cell? ⟨w.heap.size, 1, none⟩ = some (.slice pps ps.length cps) := (hb1.cell (by simp <;> omega)).trans (by go_simp)
  have c_e_2 : w1.cell? ⟨w.heap.size, 2, none⟩ = some (.slice pts ts.length cts) := (hb1.cell (by simp <;> omega)).trans (by go_simp)
  have c_e_3 : w1.cell? ⟨w.heap.size, 3, none⟩ = some (.int .i64 b) := (hb1.cell (by simp <;> omega)).trans (by go_simp)
  have c_e_4 : w1.cell? ⟨w.heap.size, 4, none⟩ = some (.int .i64 d) := (hb1.cell (by simp <;> omega)).trans (by go_simp)
  have c_e_5 : w1.cell? ⟨w.heap.size, 5, none⟩ = some (.int .i64 n) := (hb1.cell (by simp <;> omega)).trans (by go_simp)
  have c_e_6 : w1.cell? ⟨w.heap.size, 6, none⟩ = some (.int .i64 e0) := (hb1.cell (by simp <;> omega)).trans (by go_simp)
  have c_e_7 : w1.cell? ⟨w.heap.size, 7, none⟩ = some (.slice pms ms.length cms) := (hb1.cell (by simp <;> omega)).trans (by go_simp)
  have c_e_8 : w1.cell? ⟨w.heap.size, 8, none⟩ = some (.string str) := (hb1.cell (by simp <;> omega)).trans (by go_simp)
  have c_r_0 : w1.cell? ⟨w.heap.size + 1, 0, none⟩ = some (.int .i64 0) := (hb1.cell (by simp <;> omega)).trans (by go_simp)
  have f_r_0 : w1.frozen? ⟨w.heap.size + 1, 0, none⟩ = false := (hb1.frozen (by simp <;> omega)).trans (by go_simp)
  have c_r_1 : w1.cell? ⟨w.heap.size + 1, 1, none⟩ = some (.int .i64 0) := (hb1.cell (by simp <;> omega)).trans (by go_simp)
  have f_r_1 : w1.frozen? ⟨w.heap.size + 1, 1, none⟩ = false := (hb1.frozen (by simp <;> omega)).trans (by go_simp)
  have z_e := World.block_lt_of_cell? _ _ c_e_0
  have z_r := World.block_lt_of_cell? _ _ c_r_0
  have hB1 := below_two hB0 hs1
  clear hB0 hs1 hb1
  obtain ⟨m0, m1⟩ := put2_of (x := .int .i64 0) (y := .int .i64 0) c_r_0 c_r_1
  go_wp2
  exact bodyPost_ret (v := .tuple #[.agg #[.int .i64 0, .int .i64 0], .int .i64 60]) (by simp [results, Tryd.results36, go_sem, m0, m1]) rfl ⟨rfl, put2_below hB1 (by omega)⟩
theorem vlen_is {b d n e N D E : Int} (hN : Val.lenN b d n e = N) (hD : Val.lenD b d n e = D) (hE : Val.lenE b d n e = E) (w : World) (hR : Ready w) : Calls Tryd.prog 74 #[vl b d n e] w fun ed w' => ed = .returned (rv N D E) ∧ Below w.heap.size w w' := by
  subst hN hD hE; exact length_any b d n e w hR

set_option maxRecDepth 100000 in
set_option maxHeartbeats 4000000 in
theorem elength_yes (x : Ev) (vp vt vm : Value) (w : World) (N D E : Int) (h : EvR w vp vt vm x) (hR : Ready w) (HQ : Hid (Evt.right x = true)) (HN : Hid (Val.lenN x.b x.d x.n x.e = N)) (HD : Hid (Val.lenD x.b x.d x.n x.e = D)) (HE : Hid (Val.lenE x.b x.d x.n x.e = E)) :
    Calls Tryd.prog 36 #[evv x vp vt vm] w fun ed w' => ed = .returned (rv N D E) ∧ Below w.heap.size w w' := by
  obtain ⟨k, ps, ts, b, d, n, e0, ms, str⟩ := x
  obtain ⟨hps, hts, hms, hsz⟩ := h
  dsimp only at hps hts hms hsz HQ HN HD HE ⊢
  have Hps := Lib.hid hps
  obtain ⟨pps, cps, rfl, lps⟩ := sl_shape hps
  have Hts := Lib.hid hts
  obtain ⟨pts, cts, rfl, lts⟩ := sl_shape hts
  have Hms := Lib.hid hms
  obtain ⟨pms, cms, rfl, lms⟩ := sl_shape hms
  clear hps hts hms
  have hB0 : Below w.heap.size w w := Below.refl _ _
  go_enter Tryd.func36, Tryd.ntmps36
  go_wp2_with fail
  have hR' := hR.below ((hB0.alloc hB0.size (.cells #[.int .i64 k, .slice pps ps.length cps, .slice pts ts.length cts, .int .i64 b, .int .i64 d, .int .i64 n, .int .i64 e0, .slice pms ms.length cms, .string str] 28)).alloc (hB0.alloc hB0.size (.cells #[.int .i64 k, .slice pps ps.length cps, .slice pts ts.length cts, .int .i64 b, .int .i64 d, .int .i64 n, .int .i64 e0, .slice pms ms.length cms, .string str] 28)).size (.cells #[.int .i64 0, .int .i64 0] 52))
  refine (eright_is HQ.out _ _ _ _ ⟨Hps.out.later (by repeat (first | exact Below.refl _ _ | refine Below.alloc ?_ (by simp <;> omega) _)), Hts.out.later (by repeat (first | exact Below.refl _ _ | refine Below.alloc ?_ (by simp <;> omega) _)), Hms.out.later (by repeat (first | exact Below.refl _ _ | refine Below.alloc ?_ (by simp <;> omega) _)), hsz⟩ hR').mono ?_
  rintro e w1 ⟨rfl, hb1⟩
  clear hR'
  have hs1 : Below w.heap.size w w1 := Below.trans (by repeat (first | exact Below.refl _ _ | refine Below.alloc ?_ (by simp <;> omega) _)) (hb1.mono (by simp <;> omega))
  replace Hps := Lib.hid (Hps.out.later hs1)
  replace Hts := Lib.hid (Hts.out.later hs1)
  replace Hms := Lib.hid (Hms.out.later hs1)
  have c_e_0 : w1.cell? ⟨w.heap.size, 0, none⟩ = some (.int .i64 k) := (hb1.cell (by simp <;> omega)).trans (by go_simp)
  have c_e_1 : w1.cell? ⟨w.heap.size, 1, none⟩ = some (.slice pps ps.length cps) := (hb1.cell (by simp <;> omega)).trans (by go_simp)
  have c_e_2 : w1.cell? ⟨w.heap.size, 2, none⟩ = some (.slice pts ts.length cts) := (hb1.cell (by simp <;> omega)).trans (by go_simp)
  have c_e_3 : w1.cell? ⟨w.heap.size, 3, none⟩ = some (.int .i64 b) := (hb1.cell (by simp <;> omega)).trans (by go_simp)
  have c_e_4 : w1.cell? ⟨w.heap.size, 4, none⟩ = some (.int .i64 d) := (hb1.cell (by simp <;> omega)).trans (by go_simp)
  have c_e_5 : w1.cell? ⟨w.heap.size, 5, none⟩ = some (.int .i64 n) := (hb1.cell (by simp <;> omega)).trans (by go_simp)
  have c_e_6 : w1.cell? ⟨w.heap.size, 6, none⟩ = some (.int .i64 e0) := (hb1.cell (by simp <;> omega)).trans (by go_simp)
  have c_e_7 : w1.cell? ⟨w.heap.size, 7, none⟩ = some (.slice pms ms.length cms) := (hb1.cell (by simp <;> omega)).trans (by go_simp)
  have c_e_8 : w1.cell? ⟨w.heap.size, 8, none⟩ = some (.string str) := (hb1.cell (by simp <;> omega)).trans (by go_simp)
  have c_r_0 : w1.cell? ⟨w.heap.size + 1, 0, none⟩ = some (.int .i64 0) := (hb1.cell (by simp <;> omega)).trans (by go_simp)
  have f_r_0 : w1.frozen? ⟨w.heap.size + 1, 0, none⟩ = false := (hb1.frozen (by simp <;> omega)).trans (by go_simp)
  have c_r_1 : w1.cell? ⟨w.heap.size + 1, 1, none⟩ = some (.int .i64 0) := (hb1.cell (by simp <;> omega)).trans (by go_simp)
  have f_r_1 : w1.frozen? ⟨w.heap.size + 1, 1, none⟩ = false := (hb1.frozen (by simp <;> omega)).trans (by go_simp)
  have z_e := World.block_lt_of_cell? _ _ c_e_0
  have z_r := World.block_lt_of_cell? _ _ c_r_0
  have hB1 := below_two hB0 hs1
  clear hB0 hs1 hb1
  go_wp2_with fail
  have hR' := hR.below hB1
  refine (vlen_is HN.out HD.out HE.out _ hR').mono ?_
  rintro e w2 ⟨rfl, hb2⟩
  clear hR'
  have hs2 := hb2
  replace Hps := Lib.hid (Hps.out.later hs2)
  replace Hts := Lib.hid (Hts.out.later hs2)
  replace Hms := Lib.hid (Hms.out.later hs2)
  replace c_e_0 := cell_later hs2 c_e_0
  replace c_e_1 := cell_later hs2 c_e_1
  replace c_e_2 := cell_later hs2 c_e_2
  replace c_e_3 := cell_later hs2 c_e_3
  replace c_e_4 := cell_later hs2 c_e_4
  replace c_e_5 := cell_later hs2 c_e_5
  replace c_e_6 := cell_later hs2 c_e_6
  replace c_e_7 := cell_later hs2 c_e_7
  replace c_e_8 := cell_later hs2 c_e_8
  replace f_r_0 := frozen_later hs2 c_r_0 f_r_0
  replace c_r_0 := cell_later hs2 c_r_0
  replace f_r_1 := frozen_later hs2 c_r_1 f_r_1
  replace c_r_1 := cell_later hs2 c_r_1
  clear z_e
  have z_e := World.block_lt_of_cell? _ _ c_e_0
  clear z_r
  have z_r := World.block_lt_of_cell? _ _ c_r_0
  have hB2 := below_two hB1 hs2
  clear hB1 hs2
  obtain ⟨m0, m1⟩ := put2_of (x := .int .i64 N) (y := .int .i64 D) c_r_0 c_r_1
  go_wp2
  exact bodyPost_ret (v := .tuple #[.agg #[.int .i64 N, .int .i64 D], .int .i64 E]) (by simp [results, Tryd.results36, go_sem, m0, m1]) rfl ⟨rfl, put2_below hB2 (by omega)⟩
end Go.Proofs.YtnfnonlbokddfaaDoor
