/-
  The contract of event.Chord.
-/
import Derived.Test.YtnfnonlbokddfaaDoorEvN
import Derived.Deep.CutBlock
import Derived.Deep.DeepCutAuto
namespace Go.Proofs.YtnfnonlbokddfaaDoor
open Go.RowKit

open Evt (P3 Ev)
theorem chordE_tog (l : List Ev) (h : tog l ≠ 0) : Evt.chordE l = (Evt.zero, tog l) := by
  cases l with
  | nil => rfl
  | cons x l =>
    rw [tog_cons] at *
    rw [Evt.chordE_cons]
    cases h1 : (x :: l).all Evt.right
    · rfl
    · cases h2 : (x :: l).all (Evt.sameVal x)
      · rfl
      · rw [h1, h2] at h; exact absurd rfl h
theorem chordE_ok (x : Ev) (l : List Ev) (h : tog (x :: l) = 0) : Evt.chordE (x :: l) = Evt.rightAlone (Evt.one x l) ∧ ∀ y ∈ x :: l, Evt.IsR y := by
  rw [tog_cons] at h
  rw [Evt.chordE_cons]
  cases h1 : (x :: l).all Evt.right
  · rw [h1] at h; cases h
  · cases h2 : (x :: l).all (Evt.sameVal x)
    · rw [h1, h2] at h; cases h
    · exact ⟨rfl, Evt.all_isR h1⟩

set_option maxRecDepth 100000 in
set_option maxHeartbeats 40000000 in
theorem chord_err (v : Value) (ys : List EM) (w : World) (h : Evs w v ys) (hR : Ready w) (e0 : Int) (HT : Hid (tog (ys.map Prod.fst) = e0)) (he : (e0 != 0) = true) :
    Calls Tryd.prog 18 #[v] w fun ed w' => ed = .returned (.tuple #[evz, .int .i64 e0]) ∧ Below w.heap.size w w' := by
  have HC := Lib.hid h
  obtain ⟨p0, c0, rfl, hl1⟩ := sl_shape h.row
  clear h
  have hB0 : Below w.heap.size w w := Below.refl _ _
  go_enter Tryd.func18, Tryd.ntmps18
  go_wp2_with fail
  have hR' := hR.below (hB0.alloc hB0.size (.cells #[.int .i64 0, .slice none 0 0, .slice none 0 0, .int .i64 0, .int .i64 0, .int .i64 0, .int .i64 0, .slice none 0 0, .string ⟨#[]⟩] 28))
  refine (tog_is HT.out _ _ (HC.out.later (by repeat (first | exact Below.refl _ _ | refine Below.alloc ?_ (by simp <;> omega) _))) hR').mono ?_
  rintro e w1 ⟨rfl, hb1⟩
  clear hR'
  have hs1 : Below w.heap.size w w1 := Below.trans (by repeat (first | exact Below.refl _ _ | refine Below.alloc ?_ (by simp <;> omega) _)) (hb1.mono (by simp <;> omega))
  replace HC := Lib.hid (HC.out.later hs1)
  have c_r_0 : w1.cell? ⟨w.heap.size, 0, none⟩ = some (.int .i64 0) := (hb1.cell (by simp <;> omega)).trans (by go_simp)
  have f_r_0 : w1.frozen? ⟨w.heap.size, 0, none⟩ = false := (hb1.frozen (by simp <;> omega)).trans (by go_simp)
  have c_r_1 : w1.cell? ⟨w.heap.size, 1, none⟩ = some (.slice none 0 0) := (hb1.cell (by simp <;> omega)).trans (by go_simp)
  have f_r_1 : w1.frozen? ⟨w.heap.size, 1, none⟩ = false := (hb1.frozen (by simp <;> omega)).trans (by go_simp)
  have c_r_2 : w1.cell? ⟨w.heap.size, 2, none⟩ = some (.slice none 0 0) := (hb1.cell (by simp <;> omega)).trans (by go_simp)
  have f_r_2 : w1.frozen? ⟨w.heap.size, 2, none⟩ = false := (hb1.frozen (by simp <;> omega)).trans (by go_simp)
  have c_r_3 : w1.cell? ⟨w.heap.size, 3, none⟩ = some (.int .i64 0) := (hb1.cell (by simp <;> omega)).trans (by go_simp)
  have f_r_3 : w1.frozen? ⟨w.heap.size, 3, none⟩ = false := (hb1.frozen (by simp <;> omega)).trans (by go_simp)
  have c_r_4 : w1.cell? ⟨w.heap.size, 4, none⟩ = some (.int .i64 0) := (hb1.cell (by simp <;> omega)).trans (by go_simp)
  have f_r_4 : w1.frozen? ⟨w.heap.size, 4, none⟩ = false := (hb1.frozen (by simp <;> omega)).trans (by go_simp)
  have c_r_5 : w1.cell? ⟨w.heap.size, 5, none⟩ = some (.int .i64 0) := (hb1.cell (by simp <;> omega)).trans (by go_simp)
  have f_r_5 : w1.frozen? ⟨w.heap.size, 5, none⟩ = false := (hb1.frozen (by simp <;> omega)).trans (by go_simp)
  have c_r_6 : w1.cell? ⟨w.heap.size, 6, none⟩ = some (.int .i64 0) := (hb1.cell (by simp <;> omega)).trans (by go_simp)
  have f_r_6 : w1.frozen? ⟨w.heap.size, 6, none⟩ = false := (hb1.frozen (by simp <;> omega)).trans (by go_simp)
  have c_r_7 : w1.cell? ⟨w.heap.size, 7, none⟩ = some (.slice none 0 0) := (hb1.cell (by simp <;> omega)).trans (by go_simp)
  have f_r_7 : w1.frozen? ⟨w.heap.size, 7, none⟩ = false := (hb1.frozen (by simp <;> omega)).trans (by go_simp)
  have c_r_8 : w1.cell? ⟨w.heap.size, 8, none⟩ = some (.string ⟨#[]⟩) := (hb1.cell (by simp <;> omega)).trans (by go_simp)
  have f_r_8 : w1.frozen? ⟨w.heap.size, 8, none⟩ = false := (hb1.frozen (by simp <;> omega)).trans (by go_simp)
  have z_r := World.block_lt_of_cell? _ _ c_r_0
  have hB1 := below_two hB0 hs1
  clear hB0 hs1 hb1
  obtain ⟨m0, m1, m2, m3, m4, m5, m6, m7, m8⟩ := put9_of (x0 := .int .i64 0) (x1 := .slice none 0 0) (x2 := .slice none 0 0) (x3 := .int .i64 0) (x4 := .int .i64 0) (x5 := .int .i64 0) (x6 := .int .i64 0) (x7 := .slice none 0 0) (x8 := .string ⟨#[]⟩) c_r_0 c_r_1 c_r_2 c_r_3 c_r_4 c_r_5 c_r_6 c_r_7 c_r_8
  go_wp2
  exact bodyPost_ret (v := .tuple #[.agg #[.int .i64 0, .slice none 0 0, .slice none 0 0, .int .i64 0, .int .i64 0, .int .i64 0, .int .i64 0, .slice none 0 0, .string ⟨#[]⟩], .int .i64 e0]) (by simp [results, Tryd.results18, go_sem, m0, m1, m2, m3, m4, m5, m6, m7, m8]) rfl ⟨rfl, put9_below hB1 (by omega)⟩

theorem alloc_shape {w u : World} {o : Obj} (_h : Below (w.alloc o).heap.size (w.alloc o) u) : w.heap.size < (w.alloc o).heap.size := by simp
theorem alloc_shape' {w u : World} {o : Obj} (_h : Below (w.alloc o).drew.heap.size (w.alloc o).drew u) : w.heap.size < (w.alloc o).drew.heap.size := by simp
/-- The event that Chord makes, in a block of its own, ahead of its pitches. -/
def OneAt (b d n e : Int) (ms : List Int) (str : ByteArray) (wa : World) (p : Value) (wx : World) : Prop := ∃ A pm cm, p = .pointer (some ⟨A, 0, none⟩) ∧ wa.heap.size ≤ A ∧ A < wx.heap.size ∧
  wx.cell? ⟨A, 0, none⟩ = some (.int .i64 0) ∧ wx.cell? ⟨A, 1, none⟩ = some (.slice none 0 0) ∧ wx.cell? ⟨A, 2, none⟩ = some (.slice none 0 0) ∧ wx.cell? ⟨A, 3, none⟩ = some (.int .i64 b) ∧ wx.cell? ⟨A, 4, none⟩ = some (.int .i64 d) ∧ wx.cell? ⟨A, 5, none⟩ = some (.int .i64 n) ∧ wx.cell? ⟨A, 6, none⟩ = some (.int .i64 e) ∧ wx.cell? ⟨A, 7, none⟩ = some (.slice pm ms.length cm) ∧ wx.cell? ⟨A, 8, none⟩ = some (.string str) ∧
  wx.frozen? ⟨A, 0, none⟩ = false ∧ wx.frozen? ⟨A, 1, none⟩ = false ∧ wx.frozen? ⟨A, 2, none⟩ = false ∧ wx.frozen? ⟨A, 3, none⟩ = false ∧ wx.frozen? ⟨A, 4, none⟩ = false ∧ wx.frozen? ⟨A, 5, none⟩ = false ∧ wx.frozen? ⟨A, 6, none⟩ = false ∧ wx.frozen? ⟨A, 7, none⟩ = false ∧ wx.frozen? ⟨A, 8, none⟩ = false ∧ Ints wx (.slice pm ms.length cm) ms ∧ (Value.slice pm ms.length cm).ownBlock ≠ some A ∧ Own wa.heap.size (.slice pm ms.length cm) ∧ Below wa.heap.size wa wx

set_option maxRecDepth 100000 in
set_option maxHeartbeats 40000000 in
theorem chord_walk (v : Value) (ys : List EM) (w : World) (h : Evs w v ys) (hR : Ready w) (HT : Hid (tog (ys.map Prod.fst) = 0)) (HA : Hid (∀ y ∈ ys, Evt.IsR y.1)) (hl : ys.length ≤ 100000) (y : EM) (hy : ys[0]? = some y) (l2 : List Ev) (HXL : Hid (ys.map Prod.fst = y.1 :: l2)) (r : Ev × Int) (HRES : Hid (Evt.rightAlone (Evt.one y.1 l2) = r)) :
    Calls Tryd.prog 18 #[v] w (EvRes r w) := by
  have HC := Lib.hid h
  obtain ⟨p0, c0, rfl, hl1⟩ := sl_shape h.row
  clear h
  have hB0 : Below w.heap.size w w := Below.refl _ _
  go_enter Tryd.func18, Tryd.ntmps18
  go_wp2_with fail
  have hR' := hR.below (hB0.alloc hB0.size (.cells #[.int .i64 0, .slice none 0 0, .slice none 0 0, .int .i64 0, .int .i64 0, .int .i64 0, .int .i64 0, .slice none 0 0, .string ⟨#[]⟩] 28))
  refine (tog_is HT.out _ _ (HC.out.later (by repeat (first | exact Below.refl _ _ | refine Below.alloc ?_ (by simp <;> omega) _))) hR').mono ?_
  rintro e w1 ⟨rfl, hb1⟩
  clear hR'
  have hs1 : Below w.heap.size w w1 := Below.trans (by repeat (first | exact Below.refl _ _ | refine Below.alloc ?_ (by simp <;> omega) _)) (hb1.mono (by simp <;> omega))
  replace HC := Lib.hid (HC.out.later hs1)
  have c_r_0 : w1.cell? ⟨w.heap.size, 0, none⟩ = some (.int .i64 0) := (hb1.cell (by simp <;> omega)).trans (by go_simp)
  have f_r_0 : w1.frozen? ⟨w.heap.size, 0, none⟩ = false := (hb1.frozen (by simp <;> omega)).trans (by go_simp)
  have c_r_1 : w1.cell? ⟨w.heap.size, 1, none⟩ = some (.slice none 0 0) := (hb1.cell (by simp <;> omega)).trans (by go_simp)
  have f_r_1 : w1.frozen? ⟨w.heap.size, 1, none⟩ = false := (hb1.frozen (by simp <;> omega)).trans (by go_simp)
  have c_r_2 : w1.cell? ⟨w.heap.size, 2, none⟩ = some (.slice none 0 0) := (hb1.cell (by simp <;> omega)).trans (by go_simp)
  have f_r_2 : w1.frozen? ⟨w.heap.size, 2, none⟩ = false := (hb1.frozen (by simp <;> omega)).trans (by go_simp)
  have c_r_3 : w1.cell? ⟨w.heap.size, 3, none⟩ = some (.int .i64 0) := (hb1.cell (by simp <;> omega)).trans (by go_simp)
  have f_r_3 : w1.frozen? ⟨w.heap.size, 3, none⟩ = false := (hb1.frozen (by simp <;> omega)).trans (by go_simp)
  have c_r_4 : w1.cell? ⟨w.heap.size, 4, none⟩ = some (.int .i64 0) := (hb1.cell (by simp <;> omega)).trans (by go_simp)
  have f_r_4 : w1.frozen? ⟨w.heap.size, 4, none⟩ = false := (hb1.frozen (by simp <;> omega)).trans (by go_simp)
  have c_r_5 : w1.cell? ⟨w.heap.size, 5, none⟩ = some (.int .i64 0) := (hb1.cell (by simp <;> omega)).trans (by go_simp)
  have f_r_5 : w1.frozen? ⟨w.heap.size, 5, none⟩ = false := (hb1.frozen (by simp <;> omega)).trans (by go_simp)
  have c_r_6 : w1.cell? ⟨w.heap.size, 6, none⟩ = some (.int .i64 0) := (hb1.cell (by simp <;> omega)).trans (by go_simp)
  have f_r_6 : w1.frozen? ⟨w.heap.size, 6, none⟩ = false := (hb1.frozen (by simp <;> omega)).trans (by go_simp)
  have c_r_7 : w1.cell? ⟨w.heap.size, 7, none⟩ = some (.slice none 0 0) := (hb1.cell (by simp <;> omega)).trans (by go_simp)
  have f_r_7 : w1.frozen? ⟨w.heap.size, 7, none⟩ = false := (hb1.frozen (by simp <;> omega)).trans (by go_simp)
  have c_r_8 : w1.cell? ⟨w.heap.size, 8, none⟩ = some (.string ⟨#[]⟩) := (hb1.cell (by simp <;> omega)).trans (by go_simp)
  have f_r_8 : w1.frozen? ⟨w.heap.size, 8, none⟩ = false := (hb1.frozen (by simp <;> omega)).trans (by go_simp)
  have z_r := World.block_lt_of_cell? _ _ c_r_0
  have hB1 := below_two hB0 hs1
  clear hB0 hs1 hb1
  obtain ⟨b1, o1, e1, -, -, -, hv3, hv4, hv5, hv6, -, -⟩ := evs_at HC.out hy
  have hpos : 0 < ys.length := (List.getElem?_eq_some_iff.1 hy).1
  have zb1 : b1 < w1.heap.size := World.block_lt_of_cell? _ _ hv3
  have hposI : (0 : Int) < (ys.length : Int) := by omega
  subst e1
  rw [Nat.zero_mul, Nat.add_zero] at hv3 hv4 hv5 hv6
  obtain ⟨ms, hms⟩ : ∃ ms, Evt.mk (ys.map Prod.fst) = ms := ⟨_, rfl⟩
  obtain ⟨str, hstr⟩ : ∃ t, Evt.fw (ys.map Prod.fst) = t := ⟨_, rfl⟩
  have HMS := Lib.hid hms
  have HST := Lib.hid hstr
  have HC1 : Hid (Evs w1.drew (.slice (some ⟨b1, o1, none⟩) ys.length c0) ys) := Lib.hid (HC.out.later (Below.refl _ _).drew)
  generalize hyb : y.1.b = b at *
  generalize hyd : y.1.d = d at *
  generalize hyn : y.1.n = n at *
  generalize hye : y.1.e = e0 at *
  obtain ⟨PS, hPS⟩ : ∃ l, (Evt.allP (ys.map Prod.fst)).map Prod.fst = l := ⟨_, rfl⟩
  obtain ⟨TS, hTS⟩ : ∃ l, (Evt.allP (ys.map Prod.fst)).map Prod.snd = l := ⟨_, rfl⟩
  have HPS := Lib.hid hPS
  have HTS := Lib.hid hTS
  have HONE : Hid (Evt.one y.1 l2 = ⟨if PS.length = 0 then 0 else 1, PS, TS, b, d, n, e0, ms, str⟩) := Lib.hid (by
    have hk : (if Evt.allP (y.1 :: l2) = [] then (0 : Int) else 1) = if PS.length = 0 then 0 else 1 := by
      rw [← hPS, HXL.out, List.length_map]
      by_cases e : Evt.allP (y.1 :: l2) = []
      · rw [if_pos e, if_pos (by rw [e]; rfl)]
      · rw [if_neg e, if_neg (fun k => e (List.eq_nil_of_length_eq_zero k))]
    exact Evt.Ev.ext' hk (by rw [← hPS, HXL.out]; rfl) (by rw [← hTS, HXL.out]; rfl) hyb hyd hyn hye (by rw [← hms, HXL.out]; rfl) (by rw [← hstr, HXL.out]; rfl))
  have hsz : str.size ≤ 140737488355328 := by
    rcases Evt.fw_mem (ys.map Prod.fst) with e | ⟨z, hz, e⟩
    · rw [← hstr, e]; show (0 : Nat) ≤ _; omega
    · obtain ⟨u, hu, rfl⟩ := List.mem_map.1 hz
      rw [← hstr, e]; exact (HC.out.each u hu).sz
  clear hms hstr hPS hTS hyb hyd hyn hye
  go_wp2_with fail
  go_cut [5] (fun p wx => OneAt b d n e0 ms str w1 p wx)
  case first =>
    go_region_with (first
      | (go_at_call 46; (refine (allMarks_any _ ys _ ?_ HA.out (by omega)).mono ?_; (first | exact HC1.out | exact HC1.out.later ((Below.refl _ _).alloc (Nat.le_refl _) _)); rintro e u1 ⟨⟨vm', rfl, hvm, hom, hin⟩, hq1⟩; rw [HMS.out] at hvm; have HVM := Lib.hid hvm; have HOM := Lib.hid hom; have HIN := Lib.hid hin; obtain ⟨pm, cm, rfl, lm⟩ := sl_shape hvm; clear hvm hom hin; have HCU : Hid (Evs u1 (.slice (some ⟨b1, o1, none⟩) ys.length c0) ys) := Lib.hid (by first | exact HC1.out.later hq1 | exact (HC1.out.later ((Below.refl _ _).alloc (Nat.le_refl _) _)).later hq1); have hbu1 : Below w1.heap.size w1 u1 := (by first | exact below_two (Below.refl _ _).drew hq1 | exact below_two (alloc_below (Below.refl _ _).drew) hq1); have k3 : u1.cell? ⟨b1, o1 + 3, none⟩ = some (.int .i64 b) := (by first | exact cell_later hq1 (cell_drew hv3) | exact cell_later hq1 (alloc_cell (cell_drew hv3))); have k4 : u1.cell? ⟨b1, o1 + 4, none⟩ = some (.int .i64 d) := (by first | exact cell_later hq1 (cell_drew hv4) | exact cell_later hq1 (alloc_cell (cell_drew hv4))); have k5 : u1.cell? ⟨b1, o1 + 5, none⟩ = some (.int .i64 n) := (by first | exact cell_later hq1 (cell_drew hv5) | exact cell_later hq1 (alloc_cell (cell_drew hv5))); have k6 : u1.cell? ⟨b1, o1 + 6, none⟩ = some (.int .i64 e0) := (by first | exact cell_later hq1 (cell_drew hv6) | exact cell_later hq1 (alloc_cell (cell_drew hv6))); have zk1 : b1 < u1.heap.size := World.block_lt_of_cell? _ _ k3; (first | ((with_reducible have hlt_z := alloc_shape' hq1); have z0 : u1.cell? ⟨w1.heap.size, 0, none⟩ = some (.int .i64 0) := (hq1.cell (p := ⟨w1.heap.size, 0, none⟩) hlt_z).trans (by go_simp); have zf0 : u1.frozen? ⟨w1.heap.size, 0, none⟩ = false := (hq1.frozen (p := ⟨w1.heap.size, 0, none⟩) hlt_z).trans (by go_simp); have z1 : u1.cell? ⟨w1.heap.size, 1, none⟩ = some (.slice none 0 0) := (hq1.cell (p := ⟨w1.heap.size, 1, none⟩) hlt_z).trans (by go_simp); have zf1 : u1.frozen? ⟨w1.heap.size, 1, none⟩ = false := (hq1.frozen (p := ⟨w1.heap.size, 1, none⟩) hlt_z).trans (by go_simp); have z2 : u1.cell? ⟨w1.heap.size, 2, none⟩ = some (.slice none 0 0) := (hq1.cell (p := ⟨w1.heap.size, 2, none⟩) hlt_z).trans (by go_simp); have zf2 : u1.frozen? ⟨w1.heap.size, 2, none⟩ = false := (hq1.frozen (p := ⟨w1.heap.size, 2, none⟩) hlt_z).trans (by go_simp); have z3 : u1.cell? ⟨w1.heap.size, 3, none⟩ = some (.int .i64 0) := (hq1.cell (p := ⟨w1.heap.size, 3, none⟩) hlt_z).trans (by go_simp); have zf3 : u1.frozen? ⟨w1.heap.size, 3, none⟩ = false := (hq1.frozen (p := ⟨w1.heap.size, 3, none⟩) hlt_z).trans (by go_simp); have z4 : u1.cell? ⟨w1.heap.size, 4, none⟩ = some (.int .i64 0) := (hq1.cell (p := ⟨w1.heap.size, 4, none⟩) hlt_z).trans (by go_simp); have zf4 : u1.frozen? ⟨w1.heap.size, 4, none⟩ = false := (hq1.frozen (p := ⟨w1.heap.size, 4, none⟩) hlt_z).trans (by go_simp); have z5 : u1.cell? ⟨w1.heap.size, 5, none⟩ = some (.int .i64 0) := (hq1.cell (p := ⟨w1.heap.size, 5, none⟩) hlt_z).trans (by go_simp); have zf5 : u1.frozen? ⟨w1.heap.size, 5, none⟩ = false := (hq1.frozen (p := ⟨w1.heap.size, 5, none⟩) hlt_z).trans (by go_simp); have z6 : u1.cell? ⟨w1.heap.size, 6, none⟩ = some (.int .i64 0) := (hq1.cell (p := ⟨w1.heap.size, 6, none⟩) hlt_z).trans (by go_simp); have zf6 : u1.frozen? ⟨w1.heap.size, 6, none⟩ = false := (hq1.frozen (p := ⟨w1.heap.size, 6, none⟩) hlt_z).trans (by go_simp); have z7 : u1.cell? ⟨w1.heap.size, 7, none⟩ = some (.slice none 0 0) := (hq1.cell (p := ⟨w1.heap.size, 7, none⟩) hlt_z).trans (by go_simp); have zf7 : u1.frozen? ⟨w1.heap.size, 7, none⟩ = false := (hq1.frozen (p := ⟨w1.heap.size, 7, none⟩) hlt_z).trans (by go_simp); have z8 : u1.cell? ⟨w1.heap.size, 8, none⟩ = some (.string ⟨#[]⟩) := (hq1.cell (p := ⟨w1.heap.size, 8, none⟩) hlt_z).trans (by go_simp); have zf8 : u1.frozen? ⟨w1.heap.size, 8, none⟩ = false := (hq1.frozen (p := ⟨w1.heap.size, 8, none⟩) hlt_z).trans (by go_simp)) | skip)))
      | (go_at_call 47; (refine (firstWord_is HST.out _ _ ?_).mono ?_; (first | exact HCU.out | exact HCU.out.later ((Below.refl _ _).alloc (Nat.le_refl _) _)); rintro e u2 ⟨rfl, hq2⟩; have hbu2 : Below w1.heap.size w1 u2 := (by first | exact below_two hbu1 hq2 | exact below_two (alloc_below hbu1) hq2); have kk3 : u2.cell? ⟨b1, o1 + 3, none⟩ = some (.int .i64 b) := (by first | exact cell_later hq2 k3 | exact cell_later hq2 (alloc_cell k3)); have kk4 : u2.cell? ⟨b1, o1 + 4, none⟩ = some (.int .i64 d) := (by first | exact cell_later hq2 k4 | exact cell_later hq2 (alloc_cell k4)); have kk5 : u2.cell? ⟨b1, o1 + 5, none⟩ = some (.int .i64 n) := (by first | exact cell_later hq2 k5 | exact cell_later hq2 (alloc_cell k5)); have kk6 : u2.cell? ⟨b1, o1 + 6, none⟩ = some (.int .i64 e0) := (by first | exact cell_later hq2 k6 | exact cell_later hq2 (alloc_cell k6)); have zk2 : b1 < u2.heap.size := World.block_lt_of_cell? _ _ kk3; (first | (have y0 := cell_later hq2 z0; have yf0 := frozen_later hq2 z0 zf0; have y1 := cell_later hq2 z1; have yf1 := frozen_later hq2 z1 zf1; have y2 := cell_later hq2 z2; have yf2 := frozen_later hq2 z2 zf2; have y3 := cell_later hq2 z3; have yf3 := frozen_later hq2 z3 zf3; have y4 := cell_later hq2 z4; have yf4 := frozen_later hq2 z4 zf4; have y5 := cell_later hq2 z5; have yf5 := frozen_later hq2 z5 zf5; have y6 := cell_later hq2 z6; have yf6 := frozen_later hq2 z6 zf6; have y7 := cell_later hq2 z7; have yf7 := frozen_later hq2 z7 zf7; have y8 := cell_later hq2 z8; have yf8 := frozen_later hq2 z8 zf8) | ((with_reducible have hlt_y := alloc_shape hq2); have y0 : u2.cell? ⟨u1.heap.size, 0, none⟩ = some (.int .i64 0) := (hq2.cell (p := ⟨u1.heap.size, 0, none⟩) hlt_y).trans (by go_simp); have yf0 : u2.frozen? ⟨u1.heap.size, 0, none⟩ = false := (hq2.frozen (p := ⟨u1.heap.size, 0, none⟩) hlt_y).trans (by go_simp); have y1 : u2.cell? ⟨u1.heap.size, 1, none⟩ = some (.slice none 0 0) := (hq2.cell (p := ⟨u1.heap.size, 1, none⟩) hlt_y).trans (by go_simp); have yf1 : u2.frozen? ⟨u1.heap.size, 1, none⟩ = false := (hq2.frozen (p := ⟨u1.heap.size, 1, none⟩) hlt_y).trans (by go_simp); have y2 : u2.cell? ⟨u1.heap.size, 2, none⟩ = some (.slice none 0 0) := (hq2.cell (p := ⟨u1.heap.size, 2, none⟩) hlt_y).trans (by go_simp); have yf2 : u2.frozen? ⟨u1.heap.size, 2, none⟩ = false := (hq2.frozen (p := ⟨u1.heap.size, 2, none⟩) hlt_y).trans (by go_simp); have y3 : u2.cell? ⟨u1.heap.size, 3, none⟩ = some (.int .i64 0) := (hq2.cell (p := ⟨u1.heap.size, 3, none⟩) hlt_y).trans (by go_simp); have yf3 : u2.frozen? ⟨u1.heap.size, 3, none⟩ = false := (hq2.frozen (p := ⟨u1.heap.size, 3, none⟩) hlt_y).trans (by go_simp); have y4 : u2.cell? ⟨u1.heap.size, 4, none⟩ = some (.int .i64 0) := (hq2.cell (p := ⟨u1.heap.size, 4, none⟩) hlt_y).trans (by go_simp); have yf4 : u2.frozen? ⟨u1.heap.size, 4, none⟩ = false := (hq2.frozen (p := ⟨u1.heap.size, 4, none⟩) hlt_y).trans (by go_simp); have y5 : u2.cell? ⟨u1.heap.size, 5, none⟩ = some (.int .i64 0) := (hq2.cell (p := ⟨u1.heap.size, 5, none⟩) hlt_y).trans (by go_simp); have yf5 : u2.frozen? ⟨u1.heap.size, 5, none⟩ = false := (hq2.frozen (p := ⟨u1.heap.size, 5, none⟩) hlt_y).trans (by go_simp); have y6 : u2.cell? ⟨u1.heap.size, 6, none⟩ = some (.int .i64 0) := (hq2.cell (p := ⟨u1.heap.size, 6, none⟩) hlt_y).trans (by go_simp); have yf6 : u2.frozen? ⟨u1.heap.size, 6, none⟩ = false := (hq2.frozen (p := ⟨u1.heap.size, 6, none⟩) hlt_y).trans (by go_simp); have y7 : u2.cell? ⟨u1.heap.size, 7, none⟩ = some (.slice none 0 0) := (hq2.cell (p := ⟨u1.heap.size, 7, none⟩) hlt_y).trans (by go_simp); have yf7 : u2.frozen? ⟨u1.heap.size, 7, none⟩ = false := (hq2.frozen (p := ⟨u1.heap.size, 7, none⟩) hlt_y).trans (by go_simp); have y8 : u2.cell? ⟨u1.heap.size, 8, none⟩ = some (.string ⟨#[]⟩) := (hq2.cell (p := ⟨u1.heap.size, 8, none⟩) hlt_y).trans (by go_simp); have yf8 : u2.frozen? ⟨u1.heap.size, 8, none⟩ = false := (hq2.frozen (p := ⟨u1.heap.size, 8, none⟩) hlt_y).trans (by go_simp)) | skip))))
    all_goals clear HC hv3 hv4 hv5 hv6
    all_goals (first
      | (have HOM1 : Hid (Own (w1.heap.size + 1) (.slice pm ms.length cm)) := Lib.hid (HOM.out.mono hlt_z); (go_wp2_with fail; go_meet; case rel => (obtain ⟨m0, m1, m2, m3, m4, m5, m6, m7, m8⟩ := put9_of (x0 := .int .i64 0) (x1 := .slice none 0 0) (x2 := .slice none 0 0) (x3 := .int .i64 b) (x4 := .int .i64 d) (x5 := .int .i64 n) (x6 := .int .i64 e0) (x7 := .slice pm ms.length cm) (x8 := .string str) y0 y1 y2 y3 y4 y5 y6 y7 y8; exact ⟨_, pm, cm, rfl, Nat.le_refl _, by have := World.block_lt_of_cell? _ _ m0; exact this, m0, m1, m2, m3, m4, m5, m6, m7, m8, set_frozen (set_frozen (set_frozen (set_frozen (set_frozen (set_frozen (set_frozen (set_frozen (set_frozen (yf0))))))))), set_frozen (set_frozen (set_frozen (set_frozen (set_frozen (set_frozen (set_frozen (set_frozen (set_frozen (yf1))))))))), set_frozen (set_frozen (set_frozen (set_frozen (set_frozen (set_frozen (set_frozen (set_frozen (set_frozen (yf2))))))))), set_frozen (set_frozen (set_frozen (set_frozen (set_frozen (set_frozen (set_frozen (set_frozen (set_frozen (yf3))))))))), set_frozen (set_frozen (set_frozen (set_frozen (set_frozen (set_frozen (set_frozen (set_frozen (set_frozen (yf4))))))))), set_frozen (set_frozen (set_frozen (set_frozen (set_frozen (set_frozen (set_frozen (set_frozen (set_frozen (yf5))))))))), set_frozen (set_frozen (set_frozen (set_frozen (set_frozen (set_frozen (set_frozen (set_frozen (set_frozen (yf6))))))))), set_frozen (set_frozen (set_frozen (set_frozen (set_frozen (set_frozen (set_frozen (set_frozen (set_frozen (yf7))))))))), set_frozen (set_frozen (set_frozen (set_frozen (set_frozen (set_frozen (set_frozen (set_frozen (set_frozen (yf8))))))))), ((((((((((HVM.out.later hq2)).set HOM1.out (Nat.lt_succ_self _)).set HOM1.out (Nat.lt_succ_self _)).set HOM1.out (Nat.lt_succ_self _)).set HOM1.out (Nat.lt_succ_self _)).set HOM1.out (Nat.lt_succ_self _)).set HOM1.out (Nat.lt_succ_self _)).set HOM1.out (Nat.lt_succ_self _)).set HOM1.out (Nat.lt_succ_self _)).set HOM1.out (Nat.lt_succ_self _), (fun e => by have := HOM1.out _ e; omega), HOM1.out.mono (Nat.le_succ _), put9_below hbu2 (Nat.le_refl _)⟩)))
      | (have hyy := hlt_y; clear hyy; (go_wp2_with fail; go_meet; case rel => (obtain ⟨m0, m1, m2, m3, m4, m5, m6, m7, m8⟩ := put9_of (x0 := .int .i64 0) (x1 := .slice none 0 0) (x2 := .slice none 0 0) (x3 := .int .i64 b) (x4 := .int .i64 d) (x5 := .int .i64 n) (x6 := .int .i64 e0) (x7 := .slice pm ms.length cm) (x8 := .string str) y0 y1 y2 y3 y4 y5 y6 y7 y8; exact ⟨_, pm, cm, rfl, hbu1.size, by have := World.block_lt_of_cell? _ _ m0; exact this, m0, m1, m2, m3, m4, m5, m6, m7, m8, set_frozen (set_frozen (set_frozen (set_frozen (set_frozen (set_frozen (set_frozen (set_frozen (set_frozen (yf0))))))))), set_frozen (set_frozen (set_frozen (set_frozen (set_frozen (set_frozen (set_frozen (set_frozen (set_frozen (yf1))))))))), set_frozen (set_frozen (set_frozen (set_frozen (set_frozen (set_frozen (set_frozen (set_frozen (set_frozen (yf2))))))))), set_frozen (set_frozen (set_frozen (set_frozen (set_frozen (set_frozen (set_frozen (set_frozen (set_frozen (yf3))))))))), set_frozen (set_frozen (set_frozen (set_frozen (set_frozen (set_frozen (set_frozen (set_frozen (set_frozen (yf4))))))))), set_frozen (set_frozen (set_frozen (set_frozen (set_frozen (set_frozen (set_frozen (set_frozen (set_frozen (yf5))))))))), set_frozen (set_frozen (set_frozen (set_frozen (set_frozen (set_frozen (set_frozen (set_frozen (set_frozen (yf6))))))))), set_frozen (set_frozen (set_frozen (set_frozen (set_frozen (set_frozen (set_frozen (set_frozen (set_frozen (yf7))))))))), set_frozen (set_frozen (set_frozen (set_frozen (set_frozen (set_frozen (set_frozen (set_frozen (set_frozen (yf8))))))))), HVM.out.later (put9_below (below_two ((Below.refl _ _).alloc (Nat.le_refl _) _) hq2) (Nat.le_refl _)), (fun e => Nat.lt_irrefl _ (HIN.out _ e)), HOM.out, put9_below hbu2 hbu1.size⟩)))
      | (go_wp2_with fail; go_meet; case rel => exact ⟨_, pm, cm, rfl, hbu2.size, by simp, by go_simp, by go_simp, by go_simp, by go_simp, by go_simp, by go_simp, by go_simp, by go_simp, by go_simp, by go_simp, by go_simp, by go_simp, by go_simp, by go_simp, by go_simp, by go_simp, by go_simp, by go_simp, HVM.out.later (alloc_below hq2), (fun e => Nat.lt_irrefl _ (Nat.lt_of_lt_of_le (HIN.out _ e) hq2.size)), HOM.out, alloc_below hbu2⟩))
  case rest =>
    obtain ⟨A, pm, cm, rfl, hA1, hA2, c_o_0, c_o_1, c_o_2, c_o_3, c_o_4, c_o_5, c_o_6, c_o_7, c_o_8, f_o_0, f_o_1, f_o_2, f_o_3, f_o_4, f_o_5, f_o_6, f_o_7, f_o_8, hvm, hne, hom, hbx⟩ := hcut
    have HVM := Lib.hid hvm
    have HNE := Lib.hid hne
    have HOM := Lib.hid hom
    clear hvm hne hom hv3 hv4 hv5 hv6 zb1
    replace f_r_0 := frozen_later hbx c_r_0 f_r_0
    replace c_r_0 := cell_later hbx c_r_0
    replace f_r_1 := frozen_later hbx c_r_1 f_r_1
    replace c_r_1 := cell_later hbx c_r_1
    replace f_r_2 := frozen_later hbx c_r_2 f_r_2
    replace c_r_2 := cell_later hbx c_r_2
    replace f_r_3 := frozen_later hbx c_r_3 f_r_3
    replace c_r_3 := cell_later hbx c_r_3
    replace f_r_4 := frozen_later hbx c_r_4 f_r_4
    replace c_r_4 := cell_later hbx c_r_4
    replace f_r_5 := frozen_later hbx c_r_5 f_r_5
    replace c_r_5 := cell_later hbx c_r_5
    replace f_r_6 := frozen_later hbx c_r_6 f_r_6
    replace c_r_6 := cell_later hbx c_r_6
    replace f_r_7 := frozen_later hbx c_r_7 f_r_7
    replace c_r_7 := cell_later hbx c_r_7
    replace f_r_8 := frozen_later hbx c_r_8 f_r_8
    replace c_r_8 := cell_later hbx c_r_8
    replace HC := Lib.hid (HC.out.later hbx)
    have hrA : w.heap.size < A := Nat.lt_of_lt_of_le z_r hA1
    have hwA : w.heap.size + 1 ≤ w1.heap.size := z_r
    clear z_r
    have z_r : w.heap.size < wc.heap.size := World.block_lt_of_cell? _ _ c_r_0
    have z_o : A < wc.heap.size := hA2
    have hwc : w.heap.size + 1 ≤ wc.heap.size := z_r
    have hB5 := below_two hB1 hbx
    clear hB1 hbx hA2 HC1
    go_wp2_with fail
    have hR' := hR.below hB5
    have hAc := z_o
    refine (allPitches_any _ ys _ HC.out HA.out hl hR').mono ?_
    rintro e w6 ⟨⟨vp, vt, rfl, hvp, hvt, hop, hot⟩, hb6⟩
    clear hR'
    have hs6 := hb6
    replace HC := Lib.hid (HC.out.later hs6)
    replace HVM := Lib.hid (HVM.out.later hs6)
    replace f_r_0 := frozen_later hs6 c_r_0 f_r_0
    replace c_r_0 := cell_later hs6 c_r_0
    replace f_r_1 := frozen_later hs6 c_r_1 f_r_1
    replace c_r_1 := cell_later hs6 c_r_1
    replace f_r_2 := frozen_later hs6 c_r_2 f_r_2
    replace c_r_2 := cell_later hs6 c_r_2
    replace f_r_3 := frozen_later hs6 c_r_3 f_r_3
    replace c_r_3 := cell_later hs6 c_r_3
    replace f_r_4 := frozen_later hs6 c_r_4 f_r_4
    replace c_r_4 := cell_later hs6 c_r_4
    replace f_r_5 := frozen_later hs6 c_r_5 f_r_5
    replace c_r_5 := cell_later hs6 c_r_5
    replace f_r_6 := frozen_later hs6 c_r_6 f_r_6
    replace c_r_6 := cell_later hs6 c_r_6
    replace f_r_7 := frozen_later hs6 c_r_7 f_r_7
    replace c_r_7 := cell_later hs6 c_r_7
    replace f_r_8 := frozen_later hs6 c_r_8 f_r_8
    replace c_r_8 := cell_later hs6 c_r_8
    replace f_o_0 := frozen_later hs6 c_o_0 f_o_0
    replace c_o_0 := cell_later hs6 c_o_0
    replace f_o_1 := frozen_later hs6 c_o_1 f_o_1
    replace c_o_1 := cell_later hs6 c_o_1
    replace f_o_2 := frozen_later hs6 c_o_2 f_o_2
    replace c_o_2 := cell_later hs6 c_o_2
    replace f_o_3 := frozen_later hs6 c_o_3 f_o_3
    replace c_o_3 := cell_later hs6 c_o_3
    replace f_o_4 := frozen_later hs6 c_o_4 f_o_4
    replace c_o_4 := cell_later hs6 c_o_4
    replace f_o_5 := frozen_later hs6 c_o_5 f_o_5
    replace c_o_5 := cell_later hs6 c_o_5
    replace f_o_6 := frozen_later hs6 c_o_6 f_o_6
    replace c_o_6 := cell_later hs6 c_o_6
    replace f_o_7 := frozen_later hs6 c_o_7 f_o_7
    replace c_o_7 := cell_later hs6 c_o_7
    replace f_o_8 := frozen_later hs6 c_o_8 f_o_8
    replace c_o_8 := cell_later hs6 c_o_8
    clear z_o
    have z_o := World.block_lt_of_cell? _ _ c_o_0
    clear z_r
    have z_r := World.block_lt_of_cell? _ _ c_r_0
    have hB6 := below_two hB5 hs6
    clear hB5 hs6
    rw [HPS.out] at hvp
    rw [HTS.out] at hvt
    have HVP := Lib.hid hvp
    have HVT := Lib.hid hvt
    have HOP := Lib.hid hop
    have HOT := Lib.hid hot
    obtain ⟨pp, cp, rfl, lp⟩ := sl_shape hvp
    obtain ⟨pt', ct, rfl, lt⟩ := sl_shape hvt
    clear hvp hvt hop hot
    by_cases hn : PS.length = 0
    · have hone : Evt.one y.1 l2 = ⟨0, PS, TS, b, d, n, e0, ms, str⟩ := by rw [HONE.out, if_pos hn]
      have hlen : ¬ (0 : Int) < (PS.length : Int) := by omega
      clear hn
      cases hq : Evt.right ⟨0, PS, TS, b, d, n, e0, ms, str⟩
      · have HQ := Lib.hid hq
        obtain rfl : r = (Evt.zero, 60) := by have := HRES.out; unfold Evt.rightAlone at this; rw [hone, hq] at this; exact this.symm
        clear hq hone HRES HONE
        go_wp2_with fail
        have n_o_0 : ((w6.setCell ⟨A, 1, none⟩ (.slice pp PS.length cp)).setCell ⟨A, 2, none⟩ (.slice pt' TS.length ct)).cell? ⟨A, 0, none⟩ = some (.int .i64 0) := set_beside (by decide) (set_beside (by decide) c_o_0)
        have n_r_0 : ((w6.setCell ⟨A, 1, none⟩ (.slice pp PS.length cp)).setCell ⟨A, 2, none⟩ (.slice pt' TS.length ct)).cell? ⟨w.heap.size, 0, none⟩ = some (.int .i64 0) := set_far (by omega) (set_far (by omega) c_r_0)
        have nf_r_0 : ((w6.setCell ⟨A, 1, none⟩ (.slice pp PS.length cp)).setCell ⟨A, 2, none⟩ (.slice pt' TS.length ct)).frozen? ⟨w.heap.size, 0, none⟩ = false := set_frozen (set_frozen f_r_0)
        have n_o_1 : ((w6.setCell ⟨A, 1, none⟩ (.slice pp PS.length cp)).setCell ⟨A, 2, none⟩ (.slice pt' TS.length ct)).cell? ⟨A, 1, none⟩ = some (.slice pp PS.length cp) := set_beside (by decide) (set_same (held_of c_o_1))
        have n_r_1 : ((w6.setCell ⟨A, 1, none⟩ (.slice pp PS.length cp)).setCell ⟨A, 2, none⟩ (.slice pt' TS.length ct)).cell? ⟨w.heap.size, 1, none⟩ = some (.slice none 0 0) := set_far (by omega) (set_far (by omega) c_r_1)
        have nf_r_1 : ((w6.setCell ⟨A, 1, none⟩ (.slice pp PS.length cp)).setCell ⟨A, 2, none⟩ (.slice pt' TS.length ct)).frozen? ⟨w.heap.size, 1, none⟩ = false := set_frozen (set_frozen f_r_1)
        have n_o_2 : ((w6.setCell ⟨A, 1, none⟩ (.slice pp PS.length cp)).setCell ⟨A, 2, none⟩ (.slice pt' TS.length ct)).cell? ⟨A, 2, none⟩ = some (.slice pt' TS.length ct) := set_same (set_held (held_of c_o_2))
        have n_r_2 : ((w6.setCell ⟨A, 1, none⟩ (.slice pp PS.length cp)).setCell ⟨A, 2, none⟩ (.slice pt' TS.length ct)).cell? ⟨w.heap.size, 2, none⟩ = some (.slice none 0 0) := set_far (by omega) (set_far (by omega) c_r_2)
        have nf_r_2 : ((w6.setCell ⟨A, 1, none⟩ (.slice pp PS.length cp)).setCell ⟨A, 2, none⟩ (.slice pt' TS.length ct)).frozen? ⟨w.heap.size, 2, none⟩ = false := set_frozen (set_frozen f_r_2)
        have n_o_3 : ((w6.setCell ⟨A, 1, none⟩ (.slice pp PS.length cp)).setCell ⟨A, 2, none⟩ (.slice pt' TS.length ct)).cell? ⟨A, 3, none⟩ = some (.int .i64 b) := set_beside (by decide) (set_beside (by decide) c_o_3)
        have n_r_3 : ((w6.setCell ⟨A, 1, none⟩ (.slice pp PS.length cp)).setCell ⟨A, 2, none⟩ (.slice pt' TS.length ct)).cell? ⟨w.heap.size, 3, none⟩ = some (.int .i64 0) := set_far (by omega) (set_far (by omega) c_r_3)
        have nf_r_3 : ((w6.setCell ⟨A, 1, none⟩ (.slice pp PS.length cp)).setCell ⟨A, 2, none⟩ (.slice pt' TS.length ct)).frozen? ⟨w.heap.size, 3, none⟩ = false := set_frozen (set_frozen f_r_3)
        have n_o_4 : ((w6.setCell ⟨A, 1, none⟩ (.slice pp PS.length cp)).setCell ⟨A, 2, none⟩ (.slice pt' TS.length ct)).cell? ⟨A, 4, none⟩ = some (.int .i64 d) := set_beside (by decide) (set_beside (by decide) c_o_4)
        have n_r_4 : ((w6.setCell ⟨A, 1, none⟩ (.slice pp PS.length cp)).setCell ⟨A, 2, none⟩ (.slice pt' TS.length ct)).cell? ⟨w.heap.size, 4, none⟩ = some (.int .i64 0) := set_far (by omega) (set_far (by omega) c_r_4)
        have nf_r_4 : ((w6.setCell ⟨A, 1, none⟩ (.slice pp PS.length cp)).setCell ⟨A, 2, none⟩ (.slice pt' TS.length ct)).frozen? ⟨w.heap.size, 4, none⟩ = false := set_frozen (set_frozen f_r_4)
        have n_o_5 : ((w6.setCell ⟨A, 1, none⟩ (.slice pp PS.length cp)).setCell ⟨A, 2, none⟩ (.slice pt' TS.length ct)).cell? ⟨A, 5, none⟩ = some (.int .i64 n) := set_beside (by decide) (set_beside (by decide) c_o_5)
        have n_r_5 : ((w6.setCell ⟨A, 1, none⟩ (.slice pp PS.length cp)).setCell ⟨A, 2, none⟩ (.slice pt' TS.length ct)).cell? ⟨w.heap.size, 5, none⟩ = some (.int .i64 0) := set_far (by omega) (set_far (by omega) c_r_5)
        have nf_r_5 : ((w6.setCell ⟨A, 1, none⟩ (.slice pp PS.length cp)).setCell ⟨A, 2, none⟩ (.slice pt' TS.length ct)).frozen? ⟨w.heap.size, 5, none⟩ = false := set_frozen (set_frozen f_r_5)
        have n_o_6 : ((w6.setCell ⟨A, 1, none⟩ (.slice pp PS.length cp)).setCell ⟨A, 2, none⟩ (.slice pt' TS.length ct)).cell? ⟨A, 6, none⟩ = some (.int .i64 e0) := set_beside (by decide) (set_beside (by decide) c_o_6)
        have n_r_6 : ((w6.setCell ⟨A, 1, none⟩ (.slice pp PS.length cp)).setCell ⟨A, 2, none⟩ (.slice pt' TS.length ct)).cell? ⟨w.heap.size, 6, none⟩ = some (.int .i64 0) := set_far (by omega) (set_far (by omega) c_r_6)
        have nf_r_6 : ((w6.setCell ⟨A, 1, none⟩ (.slice pp PS.length cp)).setCell ⟨A, 2, none⟩ (.slice pt' TS.length ct)).frozen? ⟨w.heap.size, 6, none⟩ = false := set_frozen (set_frozen f_r_6)
        have n_o_7 : ((w6.setCell ⟨A, 1, none⟩ (.slice pp PS.length cp)).setCell ⟨A, 2, none⟩ (.slice pt' TS.length ct)).cell? ⟨A, 7, none⟩ = some (.slice pm ms.length cm) := set_beside (by decide) (set_beside (by decide) c_o_7)
        have n_r_7 : ((w6.setCell ⟨A, 1, none⟩ (.slice pp PS.length cp)).setCell ⟨A, 2, none⟩ (.slice pt' TS.length ct)).cell? ⟨w.heap.size, 7, none⟩ = some (.slice none 0 0) := set_far (by omega) (set_far (by omega) c_r_7)
        have nf_r_7 : ((w6.setCell ⟨A, 1, none⟩ (.slice pp PS.length cp)).setCell ⟨A, 2, none⟩ (.slice pt' TS.length ct)).frozen? ⟨w.heap.size, 7, none⟩ = false := set_frozen (set_frozen f_r_7)
        have n_o_8 : ((w6.setCell ⟨A, 1, none⟩ (.slice pp PS.length cp)).setCell ⟨A, 2, none⟩ (.slice pt' TS.length ct)).cell? ⟨A, 8, none⟩ = some (.string str) := set_beside (by decide) (set_beside (by decide) c_o_8)
        have n_r_8 : ((w6.setCell ⟨A, 1, none⟩ (.slice pp PS.length cp)).setCell ⟨A, 2, none⟩ (.slice pt' TS.length ct)).cell? ⟨w.heap.size, 8, none⟩ = some (.string ⟨#[]⟩) := set_far (by omega) (set_far (by omega) c_r_8)
        have nf_r_8 : ((w6.setCell ⟨A, 1, none⟩ (.slice pp PS.length cp)).setCell ⟨A, 2, none⟩ (.slice pt' TS.length ct)).frozen? ⟨w.heap.size, 8, none⟩ = false := set_frozen (set_frozen f_r_8)
        have N1 : Hid (Pits ((w6.setCell ⟨A, 1, none⟩ (.slice pp PS.length cp)).setCell ⟨A, 2, none⟩ (.slice pt' TS.length ct)) (.slice pp PS.length cp) PS) := Lib.hid (((HVP.out).set HOP.out hAc).set HOP.out hAc)
        have N2 : Hid (Bools ((w6.setCell ⟨A, 1, none⟩ (.slice pp PS.length cp)).setCell ⟨A, 2, none⟩ (.slice pt' TS.length ct)) (.slice pt' TS.length ct) TS) := Lib.hid (((HVT.out).set HOT.out hAc).set HOT.out hAc)
        have N3 : Hid (Ints ((w6.setCell ⟨A, 1, none⟩ (.slice pp PS.length cp)).setCell ⟨A, 2, none⟩ (.slice pt' TS.length ct)) (.slice pm ms.length cm) ms) := Lib.hid (((HVM.out).set_ne HNE.out).set_ne HNE.out)
        have hB9 : Below w.heap.size w ((w6.setCell ⟨A, 1, none⟩ (.slice pp PS.length cp)).setCell ⟨A, 2, none⟩ (.slice pt' TS.length ct)) := set1_below (set1_below (hB6) (by omega)) (by omega)
        clear c_o_0 f_o_0 c_r_0 f_r_0 c_o_1 f_o_1 c_r_1 f_r_1 c_o_2 f_o_2 c_r_2 f_r_2 c_o_3 f_o_3 c_r_3 f_r_3 c_o_4 f_o_4 c_r_4 f_r_4 c_o_5 f_o_5 c_r_5 f_r_5 c_o_6 f_o_6 c_r_6 f_r_6 c_o_7 f_o_7 c_r_7 f_r_7 c_o_8 f_o_8 c_r_8 f_r_8 z_o z_r hB6 HVP HVT HVM HC
        generalize ((w6.setCell ⟨A, 1, none⟩ (.slice pp PS.length cp)).setCell ⟨A, 2, none⟩ (.slice pt' TS.length ct)) = w9 at *
        have c_r_0 := n_r_0
        have f_r_0 := nf_r_0
        clear n_r_0 nf_r_0
        have c_o_0 := n_o_0
        clear n_o_0
        have c_r_1 := n_r_1
        have f_r_1 := nf_r_1
        clear n_r_1 nf_r_1
        have c_o_1 := n_o_1
        clear n_o_1
        have c_r_2 := n_r_2
        have f_r_2 := nf_r_2
        clear n_r_2 nf_r_2
        have c_o_2 := n_o_2
        clear n_o_2
        have c_r_3 := n_r_3
        have f_r_3 := nf_r_3
        clear n_r_3 nf_r_3
        have c_o_3 := n_o_3
        clear n_o_3
        have c_r_4 := n_r_4
        have f_r_4 := nf_r_4
        clear n_r_4 nf_r_4
        have c_o_4 := n_o_4
        clear n_o_4
        have c_r_5 := n_r_5
        have f_r_5 := nf_r_5
        clear n_r_5 nf_r_5
        have c_o_5 := n_o_5
        clear n_o_5
        have c_r_6 := n_r_6
        have f_r_6 := nf_r_6
        clear n_r_6 nf_r_6
        have c_o_6 := n_o_6
        clear n_o_6
        have c_r_7 := n_r_7
        have f_r_7 := nf_r_7
        clear n_r_7 nf_r_7
        have c_o_7 := n_o_7
        clear n_o_7
        have c_r_8 := n_r_8
        have f_r_8 := nf_r_8
        clear n_r_8 nf_r_8
        have c_o_8 := n_o_8
        clear n_o_8
        have z_o := World.block_lt_of_cell? _ _ c_o_0
        have z_r := World.block_lt_of_cell? _ _ c_r_0
        go_wp2_with fail
        have hR' := hR.below hB9
        refine (rightAlone_no ⟨0, PS, TS, b, d, n, e0, ms, str⟩ _ _ _ _ ⟨N1.out, N2.out, N3.out, hsz⟩ hR' HQ).mono ?_
        rintro e w10 ⟨rfl, hb10⟩
        clear hR'
        have hs10 := hb10
        replace N1 := Lib.hid (N1.out.later hs10)
        replace N2 := Lib.hid (N2.out.later hs10)
        replace N3 := Lib.hid (N3.out.later hs10)
        replace f_r_0 := frozen_later hs10 c_r_0 f_r_0
        replace c_r_0 := cell_later hs10 c_r_0
        replace f_r_1 := frozen_later hs10 c_r_1 f_r_1
        replace c_r_1 := cell_later hs10 c_r_1
        replace f_r_2 := frozen_later hs10 c_r_2 f_r_2
        replace c_r_2 := cell_later hs10 c_r_2
        replace f_r_3 := frozen_later hs10 c_r_3 f_r_3
        replace c_r_3 := cell_later hs10 c_r_3
        replace f_r_4 := frozen_later hs10 c_r_4 f_r_4
        replace c_r_4 := cell_later hs10 c_r_4
        replace f_r_5 := frozen_later hs10 c_r_5 f_r_5
        replace c_r_5 := cell_later hs10 c_r_5
        replace f_r_6 := frozen_later hs10 c_r_6 f_r_6
        replace c_r_6 := cell_later hs10 c_r_6
        replace f_r_7 := frozen_later hs10 c_r_7 f_r_7
        replace c_r_7 := cell_later hs10 c_r_7
        replace f_r_8 := frozen_later hs10 c_r_8 f_r_8
        replace c_r_8 := cell_later hs10 c_r_8
        replace c_o_0 := cell_later hs10 c_o_0
        replace c_o_1 := cell_later hs10 c_o_1
        replace c_o_2 := cell_later hs10 c_o_2
        replace c_o_3 := cell_later hs10 c_o_3
        replace c_o_4 := cell_later hs10 c_o_4
        replace c_o_5 := cell_later hs10 c_o_5
        replace c_o_6 := cell_later hs10 c_o_6
        replace c_o_7 := cell_later hs10 c_o_7
        replace c_o_8 := cell_later hs10 c_o_8
        clear z_o
        have z_o := World.block_lt_of_cell? _ _ c_o_0
        clear z_r
        have z_r := World.block_lt_of_cell? _ _ c_r_0
        have hB10 := below_two hB9 hs10
        clear hB9 hs10
        obtain ⟨m0, m1, m2, m3, m4, m5, m6, m7, m8⟩ := put9_of (x0 := .int .i64 0) (x1 := .slice none 0 0) (x2 := .slice none 0 0) (x3 := .int .i64 0) (x4 := .int .i64 0) (x5 := .int .i64 0) (x6 := .int .i64 0) (x7 := .slice none 0 0) (x8 := .string ⟨#[]⟩) c_r_0 c_r_1 c_r_2 c_r_3 c_r_4 c_r_5 c_r_6 c_r_7 c_r_8
        go_wp2
        exact bodyPost_ret (v := .tuple #[.agg #[.int .i64 0, .slice none 0 0, .slice none 0 0, .int .i64 0, .int .i64 0, .int .i64 0, .int .i64 0, .slice none 0 0, .string ⟨#[]⟩], .int .i64 60]) (by simp [results, Tryd.results18, go_sem, m0, m1, m2, m3, m4, m5, m6, m7, m8]) rfl (evRes_zero rfl (put9_below hB10 (by omega)))
      · have HQ := Lib.hid hq
        obtain rfl : r = (⟨0, PS, TS, b, d, n, e0, ms, str⟩, 0) := by have := HRES.out; unfold Evt.rightAlone at this; rw [hone, hq] at this; exact this.symm
        clear hq hone HRES HONE
        go_wp2_with fail
        have n_o_0 : ((w6.setCell ⟨A, 1, none⟩ (.slice pp PS.length cp)).setCell ⟨A, 2, none⟩ (.slice pt' TS.length ct)).cell? ⟨A, 0, none⟩ = some (.int .i64 0) := set_beside (by decide) (set_beside (by decide) c_o_0)
        have n_r_0 : ((w6.setCell ⟨A, 1, none⟩ (.slice pp PS.length cp)).setCell ⟨A, 2, none⟩ (.slice pt' TS.length ct)).cell? ⟨w.heap.size, 0, none⟩ = some (.int .i64 0) := set_far (by omega) (set_far (by omega) c_r_0)
        have nf_r_0 : ((w6.setCell ⟨A, 1, none⟩ (.slice pp PS.length cp)).setCell ⟨A, 2, none⟩ (.slice pt' TS.length ct)).frozen? ⟨w.heap.size, 0, none⟩ = false := set_frozen (set_frozen f_r_0)
        have n_o_1 : ((w6.setCell ⟨A, 1, none⟩ (.slice pp PS.length cp)).setCell ⟨A, 2, none⟩ (.slice pt' TS.length ct)).cell? ⟨A, 1, none⟩ = some (.slice pp PS.length cp) := set_beside (by decide) (set_same (held_of c_o_1))
        have n_r_1 : ((w6.setCell ⟨A, 1, none⟩ (.slice pp PS.length cp)).setCell ⟨A, 2, none⟩ (.slice pt' TS.length ct)).cell? ⟨w.heap.size, 1, none⟩ = some (.slice none 0 0) := set_far (by omega) (set_far (by omega) c_r_1)
        have nf_r_1 : ((w6.setCell ⟨A, 1, none⟩ (.slice pp PS.length cp)).setCell ⟨A, 2, none⟩ (.slice pt' TS.length ct)).frozen? ⟨w.heap.size, 1, none⟩ = false := set_frozen (set_frozen f_r_1)
        have n_o_2 : ((w6.setCell ⟨A, 1, none⟩ (.slice pp PS.length cp)).setCell ⟨A, 2, none⟩ (.slice pt' TS.length ct)).cell? ⟨A, 2, none⟩ = some (.slice pt' TS.length ct) := set_same (set_held (held_of c_o_2))
        have n_r_2 : ((w6.setCell ⟨A, 1, none⟩ (.slice pp PS.length cp)).setCell ⟨A, 2, none⟩ (.slice pt' TS.length ct)).cell? ⟨w.heap.size, 2, none⟩ = some (.slice none 0 0) := set_far (by omega) (set_far (by omega) c_r_2)
        have nf_r_2 : ((w6.setCell ⟨A, 1, none⟩ (.slice pp PS.length cp)).setCell ⟨A, 2, none⟩ (.slice pt' TS.length ct)).frozen? ⟨w.heap.size, 2, none⟩ = false := set_frozen (set_frozen f_r_2)
        have n_o_3 : ((w6.setCell ⟨A, 1, none⟩ (.slice pp PS.length cp)).setCell ⟨A, 2, none⟩ (.slice pt' TS.length ct)).cell? ⟨A, 3, none⟩ = some (.int .i64 b) := set_beside (by decide) (set_beside (by decide) c_o_3)
        have n_r_3 : ((w6.setCell ⟨A, 1, none⟩ (.slice pp PS.length cp)).setCell ⟨A, 2, none⟩ (.slice pt' TS.length ct)).cell? ⟨w.heap.size, 3, none⟩ = some (.int .i64 0) := set_far (by omega) (set_far (by omega) c_r_3)
        have nf_r_3 : ((w6.setCell ⟨A, 1, none⟩ (.slice pp PS.length cp)).setCell ⟨A, 2, none⟩ (.slice pt' TS.length ct)).frozen? ⟨w.heap.size, 3, none⟩ = false := set_frozen (set_frozen f_r_3)
        have n_o_4 : ((w6.setCell ⟨A, 1, none⟩ (.slice pp PS.length cp)).setCell ⟨A, 2, none⟩ (.slice pt' TS.length ct)).cell? ⟨A, 4, none⟩ = some (.int .i64 d) := set_beside (by decide) (set_beside (by decide) c_o_4)
        have n_r_4 : ((w6.setCell ⟨A, 1, none⟩ (.slice pp PS.length cp)).setCell ⟨A, 2, none⟩ (.slice pt' TS.length ct)).cell? ⟨w.heap.size, 4, none⟩ = some (.int .i64 0) := set_far (by omega) (set_far (by omega) c_r_4)
        have nf_r_4 : ((w6.setCell ⟨A, 1, none⟩ (.slice pp PS.length cp)).setCell ⟨A, 2, none⟩ (.slice pt' TS.length ct)).frozen? ⟨w.heap.size, 4, none⟩ = false := set_frozen (set_frozen f_r_4)
        have n_o_5 : ((w6.setCell ⟨A, 1, none⟩ (.slice pp PS.length cp)).setCell ⟨A, 2, none⟩ (.slice pt' TS.length ct)).cell? ⟨A, 5, none⟩ = some (.int .i64 n) := set_beside (by decide) (set_beside (by decide) c_o_5)
        have n_r_5 : ((w6.setCell ⟨A, 1, none⟩ (.slice pp PS.length cp)).setCell ⟨A, 2, none⟩ (.slice pt' TS.length ct)).cell? ⟨w.heap.size, 5, none⟩ = some (.int .i64 0) := set_far (by omega) (set_far (by omega) c_r_5)
        have nf_r_5 : ((w6.setCell ⟨A, 1, none⟩ (.slice pp PS.length cp)).setCell ⟨A, 2, none⟩ (.slice pt' TS.length ct)).frozen? ⟨w.heap.size, 5, none⟩ = false := set_frozen (set_frozen f_r_5)
        have n_o_6 : ((w6.setCell ⟨A, 1, none⟩ (.slice pp PS.length cp)).setCell ⟨A, 2, none⟩ (.slice pt' TS.length ct)).cell? ⟨A, 6, none⟩ = some (.int .i64 e0) := set_beside (by decide) (set_beside (by decide) c_o_6)
        have n_r_6 : ((w6.setCell ⟨A, 1, none⟩ (.slice pp PS.length cp)).setCell ⟨A, 2, none⟩ (.slice pt' TS.length ct)).cell? ⟨w.heap.size, 6, none⟩ = some (.int .i64 0) := set_far (by omega) (set_far (by omega) c_r_6)
        have nf_r_6 : ((w6.setCell ⟨A, 1, none⟩ (.slice pp PS.length cp)).setCell ⟨A, 2, none⟩ (.slice pt' TS.length ct)).frozen? ⟨w.heap.size, 6, none⟩ = false := set_frozen (set_frozen f_r_6)
        have n_o_7 : ((w6.setCell ⟨A, 1, none⟩ (.slice pp PS.length cp)).setCell ⟨A, 2, none⟩ (.slice pt' TS.length ct)).cell? ⟨A, 7, none⟩ = some (.slice pm ms.length cm) := set_beside (by decide) (set_beside (by decide) c_o_7)
        have n_r_7 : ((w6.setCell ⟨A, 1, none⟩ (.slice pp PS.length cp)).setCell ⟨A, 2, none⟩ (.slice pt' TS.length ct)).cell? ⟨w.heap.size, 7, none⟩ = some (.slice none 0 0) := set_far (by omega) (set_far (by omega) c_r_7)
        have nf_r_7 : ((w6.setCell ⟨A, 1, none⟩ (.slice pp PS.length cp)).setCell ⟨A, 2, none⟩ (.slice pt' TS.length ct)).frozen? ⟨w.heap.size, 7, none⟩ = false := set_frozen (set_frozen f_r_7)
        have n_o_8 : ((w6.setCell ⟨A, 1, none⟩ (.slice pp PS.length cp)).setCell ⟨A, 2, none⟩ (.slice pt' TS.length ct)).cell? ⟨A, 8, none⟩ = some (.string str) := set_beside (by decide) (set_beside (by decide) c_o_8)
        have n_r_8 : ((w6.setCell ⟨A, 1, none⟩ (.slice pp PS.length cp)).setCell ⟨A, 2, none⟩ (.slice pt' TS.length ct)).cell? ⟨w.heap.size, 8, none⟩ = some (.string ⟨#[]⟩) := set_far (by omega) (set_far (by omega) c_r_8)
        have nf_r_8 : ((w6.setCell ⟨A, 1, none⟩ (.slice pp PS.length cp)).setCell ⟨A, 2, none⟩ (.slice pt' TS.length ct)).frozen? ⟨w.heap.size, 8, none⟩ = false := set_frozen (set_frozen f_r_8)
        have N1 : Hid (Pits ((w6.setCell ⟨A, 1, none⟩ (.slice pp PS.length cp)).setCell ⟨A, 2, none⟩ (.slice pt' TS.length ct)) (.slice pp PS.length cp) PS) := Lib.hid (((HVP.out).set HOP.out hAc).set HOP.out hAc)
        have N2 : Hid (Bools ((w6.setCell ⟨A, 1, none⟩ (.slice pp PS.length cp)).setCell ⟨A, 2, none⟩ (.slice pt' TS.length ct)) (.slice pt' TS.length ct) TS) := Lib.hid (((HVT.out).set HOT.out hAc).set HOT.out hAc)
        have N3 : Hid (Ints ((w6.setCell ⟨A, 1, none⟩ (.slice pp PS.length cp)).setCell ⟨A, 2, none⟩ (.slice pt' TS.length ct)) (.slice pm ms.length cm) ms) := Lib.hid (((HVM.out).set_ne HNE.out).set_ne HNE.out)
        have hB9 : Below w.heap.size w ((w6.setCell ⟨A, 1, none⟩ (.slice pp PS.length cp)).setCell ⟨A, 2, none⟩ (.slice pt' TS.length ct)) := set1_below (set1_below (hB6) (by omega)) (by omega)
        clear c_o_0 f_o_0 c_r_0 f_r_0 c_o_1 f_o_1 c_r_1 f_r_1 c_o_2 f_o_2 c_r_2 f_r_2 c_o_3 f_o_3 c_r_3 f_r_3 c_o_4 f_o_4 c_r_4 f_r_4 c_o_5 f_o_5 c_r_5 f_r_5 c_o_6 f_o_6 c_r_6 f_r_6 c_o_7 f_o_7 c_r_7 f_r_7 c_o_8 f_o_8 c_r_8 f_r_8 z_o z_r hB6 HVP HVT HVM HC
        generalize ((w6.setCell ⟨A, 1, none⟩ (.slice pp PS.length cp)).setCell ⟨A, 2, none⟩ (.slice pt' TS.length ct)) = w9 at *
        have c_r_0 := n_r_0
        have f_r_0 := nf_r_0
        clear n_r_0 nf_r_0
        have c_o_0 := n_o_0
        clear n_o_0
        have c_r_1 := n_r_1
        have f_r_1 := nf_r_1
        clear n_r_1 nf_r_1
        have c_o_1 := n_o_1
        clear n_o_1
        have c_r_2 := n_r_2
        have f_r_2 := nf_r_2
        clear n_r_2 nf_r_2
        have c_o_2 := n_o_2
        clear n_o_2
        have c_r_3 := n_r_3
        have f_r_3 := nf_r_3
        clear n_r_3 nf_r_3
        have c_o_3 := n_o_3
        clear n_o_3
        have c_r_4 := n_r_4
        have f_r_4 := nf_r_4
        clear n_r_4 nf_r_4
        have c_o_4 := n_o_4
        clear n_o_4
        have c_r_5 := n_r_5
        have f_r_5 := nf_r_5
        clear n_r_5 nf_r_5
        have c_o_5 := n_o_5
        clear n_o_5
        have c_r_6 := n_r_6
        have f_r_6 := nf_r_6
        clear n_r_6 nf_r_6
        have c_o_6 := n_o_6
        clear n_o_6
        have c_r_7 := n_r_7
        have f_r_7 := nf_r_7
        clear n_r_7 nf_r_7
        have c_o_7 := n_o_7
        clear n_o_7
        have c_r_8 := n_r_8
        have f_r_8 := nf_r_8
        clear n_r_8 nf_r_8
        have c_o_8 := n_o_8
        clear n_o_8
        have z_o := World.block_lt_of_cell? _ _ c_o_0
        have z_r := World.block_lt_of_cell? _ _ c_r_0
        go_wp2_with fail
        have hR' := hR.below hB9
        refine (rightAlone_yes ⟨0, PS, TS, b, d, n, e0, ms, str⟩ _ _ _ _ ⟨N1.out, N2.out, N3.out, hsz⟩ hR' HQ).mono ?_
        rintro e w10 ⟨rfl, hb10⟩
        clear hR'
        have hs10 := hb10
        replace N1 := Lib.hid (N1.out.later hs10)
        replace N2 := Lib.hid (N2.out.later hs10)
        replace N3 := Lib.hid (N3.out.later hs10)
        replace f_r_0 := frozen_later hs10 c_r_0 f_r_0
        replace c_r_0 := cell_later hs10 c_r_0
        replace f_r_1 := frozen_later hs10 c_r_1 f_r_1
        replace c_r_1 := cell_later hs10 c_r_1
        replace f_r_2 := frozen_later hs10 c_r_2 f_r_2
        replace c_r_2 := cell_later hs10 c_r_2
        replace f_r_3 := frozen_later hs10 c_r_3 f_r_3
        replace c_r_3 := cell_later hs10 c_r_3
        replace f_r_4 := frozen_later hs10 c_r_4 f_r_4
        replace c_r_4 := cell_later hs10 c_r_4
        replace f_r_5 := frozen_later hs10 c_r_5 f_r_5
        replace c_r_5 := cell_later hs10 c_r_5
        replace f_r_6 := frozen_later hs10 c_r_6 f_r_6
        replace c_r_6 := cell_later hs10 c_r_6
        replace f_r_7 := frozen_later hs10 c_r_7 f_r_7
        replace c_r_7 := cell_later hs10 c_r_7
        replace f_r_8 := frozen_later hs10 c_r_8 f_r_8
        replace c_r_8 := cell_later hs10 c_r_8
        replace c_o_0 := cell_later hs10 c_o_0
        replace c_o_1 := cell_later hs10 c_o_1
        replace c_o_2 := cell_later hs10 c_o_2
        replace c_o_3 := cell_later hs10 c_o_3
        replace c_o_4 := cell_later hs10 c_o_4
        replace c_o_5 := cell_later hs10 c_o_5
        replace c_o_6 := cell_later hs10 c_o_6
        replace c_o_7 := cell_later hs10 c_o_7
        replace c_o_8 := cell_later hs10 c_o_8
        clear z_o
        have z_o := World.block_lt_of_cell? _ _ c_o_0
        clear z_r
        have z_r := World.block_lt_of_cell? _ _ c_r_0
        have hB10 := below_two hB9 hs10
        clear hB9 hs10
        obtain ⟨m0, m1, m2, m3, m4, m5, m6, m7, m8⟩ := put9_of (x0 := .int .i64 0) (x1 := .slice pp PS.length cp) (x2 := .slice pt' TS.length ct) (x3 := .int .i64 b) (x4 := .int .i64 d) (x5 := .int .i64 n) (x6 := .int .i64 e0) (x7 := .slice pm ms.length cm) (x8 := .string str) c_r_0 c_r_1 c_r_2 c_r_3 c_r_4 c_r_5 c_r_6 c_r_7 c_r_8
        go_wp2
        exact bodyPost_ret (v := .tuple #[.agg #[.int .i64 0, .slice pp PS.length cp, .slice pt' TS.length ct, .int .i64 b, .int .i64 d, .int .i64 n, .int .i64 e0, .slice pm ms.length cm, .string str], .int .i64 0]) (by simp [results, Tryd.results18, go_sem, m0, m1, m2, m3, m4, m5, m6, m7, m8]) rfl ⟨_, _, _, rfl, put9_evr ⟨N1.out, N2.out, N3.out, hsz⟩ (HOP.out.mono hwc) (HOT.out.mono hwc) (HOM.out.mono hwA), put9_below hB10 (by omega)⟩
    · have hone : Evt.one y.1 l2 = ⟨1, PS, TS, b, d, n, e0, ms, str⟩ := by rw [HONE.out, if_neg hn]
      have hlen : (0 : Int) < (PS.length : Int) := by omega
      clear hn
      cases hq : Evt.right ⟨1, PS, TS, b, d, n, e0, ms, str⟩
      · have HQ := Lib.hid hq
        obtain rfl : r = (Evt.zero, 60) := by have := HRES.out; unfold Evt.rightAlone at this; rw [hone, hq] at this; exact this.symm
        clear hq hone HRES HONE
        go_wp2_with fail
        have n_o_0 : (((w6.setCell ⟨A, 1, none⟩ (.slice pp PS.length cp)).setCell ⟨A, 2, none⟩ (.slice pt' TS.length ct)).setCell ⟨A, 0, none⟩ (.int .i64 1)).cell? ⟨A, 0, none⟩ = some (.int .i64 1) := set_same (set_held (set_held (held_of c_o_0)))
        have n_r_0 : (((w6.setCell ⟨A, 1, none⟩ (.slice pp PS.length cp)).setCell ⟨A, 2, none⟩ (.slice pt' TS.length ct)).setCell ⟨A, 0, none⟩ (.int .i64 1)).cell? ⟨w.heap.size, 0, none⟩ = some (.int .i64 0) := set_far (by omega) (set_far (by omega) (set_far (by omega) c_r_0))
        have nf_r_0 : (((w6.setCell ⟨A, 1, none⟩ (.slice pp PS.length cp)).setCell ⟨A, 2, none⟩ (.slice pt' TS.length ct)).setCell ⟨A, 0, none⟩ (.int .i64 1)).frozen? ⟨w.heap.size, 0, none⟩ = false := set_frozen (set_frozen (set_frozen f_r_0))
        have n_o_1 : (((w6.setCell ⟨A, 1, none⟩ (.slice pp PS.length cp)).setCell ⟨A, 2, none⟩ (.slice pt' TS.length ct)).setCell ⟨A, 0, none⟩ (.int .i64 1)).cell? ⟨A, 1, none⟩ = some (.slice pp PS.length cp) := set_beside (by decide) (set_beside (by decide) (set_same (held_of c_o_1)))
        have n_r_1 : (((w6.setCell ⟨A, 1, none⟩ (.slice pp PS.length cp)).setCell ⟨A, 2, none⟩ (.slice pt' TS.length ct)).setCell ⟨A, 0, none⟩ (.int .i64 1)).cell? ⟨w.heap.size, 1, none⟩ = some (.slice none 0 0) := set_far (by omega) (set_far (by omega) (set_far (by omega) c_r_1))
        have nf_r_1 : (((w6.setCell ⟨A, 1, none⟩ (.slice pp PS.length cp)).setCell ⟨A, 2, none⟩ (.slice pt' TS.length ct)).setCell ⟨A, 0, none⟩ (.int .i64 1)).frozen? ⟨w.heap.size, 1, none⟩ = false := set_frozen (set_frozen (set_frozen f_r_1))
        have n_o_2 : (((w6.setCell ⟨A, 1, none⟩ (.slice pp PS.length cp)).setCell ⟨A, 2, none⟩ (.slice pt' TS.length ct)).setCell ⟨A, 0, none⟩ (.int .i64 1)).cell? ⟨A, 2, none⟩ = some (.slice pt' TS.length ct) := set_beside (by decide) (set_same (set_held (held_of c_o_2)))
        have n_r_2 : (((w6.setCell ⟨A, 1, none⟩ (.slice pp PS.length cp)).setCell ⟨A, 2, none⟩ (.slice pt' TS.length ct)).setCell ⟨A, 0, none⟩ (.int .i64 1)).cell? ⟨w.heap.size, 2, none⟩ = some (.slice none 0 0) := set_far (by omega) (set_far (by omega) (set_far (by omega) c_r_2))
        have nf_r_2 : (((w6.setCell ⟨A, 1, none⟩ (.slice pp PS.length cp)).setCell ⟨A, 2, none⟩ (.slice pt' TS.length ct)).setCell ⟨A, 0, none⟩ (.int .i64 1)).frozen? ⟨w.heap.size, 2, none⟩ = false := set_frozen (set_frozen (set_frozen f_r_2))
        have n_o_3 : (((w6.setCell ⟨A, 1, none⟩ (.slice pp PS.length cp)).setCell ⟨A, 2, none⟩ (.slice pt' TS.length ct)).setCell ⟨A, 0, none⟩ (.int .i64 1)).cell? ⟨A, 3, none⟩ = some (.int .i64 b) := set_beside (by decide) (set_beside (by decide) (set_beside (by decide) c_o_3))
        have n_r_3 : (((w6.setCell ⟨A, 1, none⟩ (.slice pp PS.length cp)).setCell ⟨A, 2, none⟩ (.slice pt' TS.length ct)).setCell ⟨A, 0, none⟩ (.int .i64 1)).cell? ⟨w.heap.size, 3, none⟩ = some (.int .i64 0) := set_far (by omega) (set_far (by omega) (set_far (by omega) c_r_3))
        have nf_r_3 : (((w6.setCell ⟨A, 1, none⟩ (.slice pp PS.length cp)).setCell ⟨A, 2, none⟩ (.slice pt' TS.length ct)).setCell ⟨A, 0, none⟩ (.int .i64 1)).frozen? ⟨w.heap.size, 3, none⟩ = false := set_frozen (set_frozen (set_frozen f_r_3))
        have n_o_4 : (((w6.setCell ⟨A, 1, none⟩ (.slice pp PS.length cp)).setCell ⟨A, 2, none⟩ (.slice pt' TS.length ct)).setCell ⟨A, 0, none⟩ (.int .i64 1)).cell? ⟨A, 4, none⟩ = some (.int .i64 d) := set_beside (by decide) (set_beside (by decide) (set_beside (by decide) c_o_4))
        have n_r_4 : (((w6.setCell ⟨A, 1, none⟩ (.slice pp PS.length cp)).setCell ⟨A, 2, none⟩ (.slice pt' TS.length ct)).setCell ⟨A, 0, none⟩ (.int .i64 1)).cell? ⟨w.heap.size, 4, none⟩ = some (.int .i64 0) := set_far (by omega) (set_far (by omega) (set_far (by omega) c_r_4))
        have nf_r_4 : (((w6.setCell ⟨A, 1, none⟩ (.slice pp PS.length cp)).setCell ⟨A, 2, none⟩ (.slice pt' TS.length ct)).setCell ⟨A, 0, none⟩ (.int .i64 1)).frozen? ⟨w.heap.size, 4, none⟩ = false := set_frozen (set_frozen (set_frozen f_r_4))
        have n_o_5 : (((w6.setCell ⟨A, 1, none⟩ (.slice pp PS.length cp)).setCell ⟨A, 2, none⟩ (.slice pt' TS.length ct)).setCell ⟨A, 0, none⟩ (.int .i64 1)).cell? ⟨A, 5, none⟩ = some (.int .i64 n) := set_beside (by decide) (set_beside (by decide) (set_beside (by decide) c_o_5))
        have n_r_5 : (((w6.setCell ⟨A, 1, none⟩ (.slice pp PS.length cp)).setCell ⟨A, 2, none⟩ (.slice pt' TS.length ct)).setCell ⟨A, 0, none⟩ (.int .i64 1)).cell? ⟨w.heap.size, 5, none⟩ = some (.int .i64 0) := set_far (by omega) (set_far (by omega) (set_far (by omega) c_r_5))
        have nf_r_5 : (((w6.setCell ⟨A, 1, none⟩ (.slice pp PS.length cp)).setCell ⟨A, 2, none⟩ (.slice pt' TS.length ct)).setCell ⟨A, 0, none⟩ (.int .i64 1)).frozen? ⟨w.heap.size, 5, none⟩ = false := set_frozen (set_frozen (set_frozen f_r_5))
        have n_o_6 : (((w6.setCell ⟨A, 1, none⟩ (.slice pp PS.length cp)).setCell ⟨A, 2, none⟩ (.slice pt' TS.length ct)).setCell ⟨A, 0, none⟩ (.int .i64 1)).cell? ⟨A, 6, none⟩ = some (.int .i64 e0) := set_beside (by decide) (set_beside (by decide) (set_beside (by decide) c_o_6))
        have n_r_6 : (((w6.setCell ⟨A, 1, none⟩ (.slice pp PS.length cp)).setCell ⟨A, 2, none⟩ (.slice pt' TS.length ct)).setCell ⟨A, 0, none⟩ (.int .i64 1)).cell? ⟨w.heap.size, 6, none⟩ = some (.int .i64 0) := set_far (by omega) (set_far (by omega) (set_far (by omega) c_r_6))
        have nf_r_6 : (((w6.setCell ⟨A, 1, none⟩ (.slice pp PS.length cp)).setCell ⟨A, 2, none⟩ (.slice pt' TS.length ct)).setCell ⟨A, 0, none⟩ (.int .i64 1)).frozen? ⟨w.heap.size, 6, none⟩ = false := set_frozen (set_frozen (set_frozen f_r_6))
        have n_o_7 : (((w6.setCell ⟨A, 1, none⟩ (.slice pp PS.length cp)).setCell ⟨A, 2, none⟩ (.slice pt' TS.length ct)).setCell ⟨A, 0, none⟩ (.int .i64 1)).cell? ⟨A, 7, none⟩ = some (.slice pm ms.length cm) := set_beside (by decide) (set_beside (by decide) (set_beside (by decide) c_o_7))
        have n_r_7 : (((w6.setCell ⟨A, 1, none⟩ (.slice pp PS.length cp)).setCell ⟨A, 2, none⟩ (.slice pt' TS.length ct)).setCell ⟨A, 0, none⟩ (.int .i64 1)).cell? ⟨w.heap.size, 7, none⟩ = some (.slice none 0 0) := set_far (by omega) (set_far (by omega) (set_far (by omega) c_r_7))
        have nf_r_7 : (((w6.setCell ⟨A, 1, none⟩ (.slice pp PS.length cp)).setCell ⟨A, 2, none⟩ (.slice pt' TS.length ct)).setCell ⟨A, 0, none⟩ (.int .i64 1)).frozen? ⟨w.heap.size, 7, none⟩ = false := set_frozen (set_frozen (set_frozen f_r_7))
        have n_o_8 : (((w6.setCell ⟨A, 1, none⟩ (.slice pp PS.length cp)).setCell ⟨A, 2, none⟩ (.slice pt' TS.length ct)).setCell ⟨A, 0, none⟩ (.int .i64 1)).cell? ⟨A, 8, none⟩ = some (.string str) := set_beside (by decide) (set_beside (by decide) (set_beside (by decide) c_o_8))
        have n_r_8 : (((w6.setCell ⟨A, 1, none⟩ (.slice pp PS.length cp)).setCell ⟨A, 2, none⟩ (.slice pt' TS.length ct)).setCell ⟨A, 0, none⟩ (.int .i64 1)).cell? ⟨w.heap.size, 8, none⟩ = some (.string ⟨#[]⟩) := set_far (by omega) (set_far (by omega) (set_far (by omega) c_r_8))
        have nf_r_8 : (((w6.setCell ⟨A, 1, none⟩ (.slice pp PS.length cp)).setCell ⟨A, 2, none⟩ (.slice pt' TS.length ct)).setCell ⟨A, 0, none⟩ (.int .i64 1)).frozen? ⟨w.heap.size, 8, none⟩ = false := set_frozen (set_frozen (set_frozen f_r_8))
        have N1 : Hid (Pits (((w6.setCell ⟨A, 1, none⟩ (.slice pp PS.length cp)).setCell ⟨A, 2, none⟩ (.slice pt' TS.length ct)).setCell ⟨A, 0, none⟩ (.int .i64 1)) (.slice pp PS.length cp) PS) := Lib.hid ((((HVP.out).set HOP.out hAc).set HOP.out hAc).set HOP.out hAc)
        have N2 : Hid (Bools (((w6.setCell ⟨A, 1, none⟩ (.slice pp PS.length cp)).setCell ⟨A, 2, none⟩ (.slice pt' TS.length ct)).setCell ⟨A, 0, none⟩ (.int .i64 1)) (.slice pt' TS.length ct) TS) := Lib.hid ((((HVT.out).set HOT.out hAc).set HOT.out hAc).set HOT.out hAc)
        have N3 : Hid (Ints (((w6.setCell ⟨A, 1, none⟩ (.slice pp PS.length cp)).setCell ⟨A, 2, none⟩ (.slice pt' TS.length ct)).setCell ⟨A, 0, none⟩ (.int .i64 1)) (.slice pm ms.length cm) ms) := Lib.hid ((((HVM.out).set_ne HNE.out).set_ne HNE.out).set_ne HNE.out)
        have hB9 : Below w.heap.size w (((w6.setCell ⟨A, 1, none⟩ (.slice pp PS.length cp)).setCell ⟨A, 2, none⟩ (.slice pt' TS.length ct)).setCell ⟨A, 0, none⟩ (.int .i64 1)) := set1_below (set1_below (set1_below (hB6) (by omega)) (by omega)) (by omega)
        clear c_o_0 f_o_0 c_r_0 f_r_0 c_o_1 f_o_1 c_r_1 f_r_1 c_o_2 f_o_2 c_r_2 f_r_2 c_o_3 f_o_3 c_r_3 f_r_3 c_o_4 f_o_4 c_r_4 f_r_4 c_o_5 f_o_5 c_r_5 f_r_5 c_o_6 f_o_6 c_r_6 f_r_6 c_o_7 f_o_7 c_r_7 f_r_7 c_o_8 f_o_8 c_r_8 f_r_8 z_o z_r hB6 HVP HVT HVM HC
        generalize (((w6.setCell ⟨A, 1, none⟩ (.slice pp PS.length cp)).setCell ⟨A, 2, none⟩ (.slice pt' TS.length ct)).setCell ⟨A, 0, none⟩ (.int .i64 1)) = w9 at *
        have c_r_0 := n_r_0
        have f_r_0 := nf_r_0
        clear n_r_0 nf_r_0
        have c_o_0 := n_o_0
        clear n_o_0
        have c_r_1 := n_r_1
        have f_r_1 := nf_r_1
        clear n_r_1 nf_r_1
        have c_o_1 := n_o_1
        clear n_o_1
        have c_r_2 := n_r_2
        have f_r_2 := nf_r_2
        clear n_r_2 nf_r_2
        have c_o_2 := n_o_2
        clear n_o_2
        have c_r_3 := n_r_3
        have f_r_3 := nf_r_3
        clear n_r_3 nf_r_3
        have c_o_3 := n_o_3
        clear n_o_3
        have c_r_4 := n_r_4
        have f_r_4 := nf_r_4
        clear n_r_4 nf_r_4
        have c_o_4 := n_o_4
        clear n_o_4
        have c_r_5 := n_r_5
        have f_r_5 := nf_r_5
        clear n_r_5 nf_r_5
        have c_o_5 := n_o_5
        clear n_o_5
        have c_r_6 := n_r_6
        have f_r_6 := nf_r_6
        clear n_r_6 nf_r_6
        have c_o_6 := n_o_6
        clear n_o_6
        have c_r_7 := n_r_7
        have f_r_7 := nf_r_7
        clear n_r_7 nf_r_7
        have c_o_7 := n_o_7
        clear n_o_7
        have c_r_8 := n_r_8
        have f_r_8 := nf_r_8
        clear n_r_8 nf_r_8
        have c_o_8 := n_o_8
        clear n_o_8
        have z_o := World.block_lt_of_cell? _ _ c_o_0
        have z_r := World.block_lt_of_cell? _ _ c_r_0
        go_wp2_with fail
        have hR' := hR.below hB9
        refine (rightAlone_no ⟨1, PS, TS, b, d, n, e0, ms, str⟩ _ _ _ _ ⟨N1.out, N2.out, N3.out, hsz⟩ hR' HQ).mono ?_
        rintro e w10 ⟨rfl, hb10⟩
        clear hR'
        have hs10 := hb10
        replace N1 := Lib.hid (N1.out.later hs10)
        replace N2 := Lib.hid (N2.out.later hs10)
        replace N3 := Lib.hid (N3.out.later hs10)
        replace f_r_0 := frozen_later hs10 c_r_0 f_r_0
        replace c_r_0 := cell_later hs10 c_r_0
        replace f_r_1 := frozen_later hs10 c_r_1 f_r_1
        replace c_r_1 := cell_later hs10 c_r_1
        replace f_r_2 := frozen_later hs10 c_r_2 f_r_2
        replace c_r_2 := cell_later hs10 c_r_2
        replace f_r_3 := frozen_later hs10 c_r_3 f_r_3
        replace c_r_3 := cell_later hs10 c_r_3
        replace f_r_4 := frozen_later hs10 c_r_4 f_r_4
        replace c_r_4 := cell_later hs10 c_r_4
        replace f_r_5 := frozen_later hs10 c_r_5 f_r_5
        replace c_r_5 := cell_later hs10 c_r_5
        replace f_r_6 := frozen_later hs10 c_r_6 f_r_6
        replace c_r_6 := cell_later hs10 c_r_6
        replace f_r_7 := frozen_later hs10 c_r_7 f_r_7
        replace c_r_7 := cell_later hs10 c_r_7
        replace f_r_8 := frozen_later hs10 c_r_8 f_r_8
        replace c_r_8 := cell_later hs10 c_r_8
        replace c_o_0 := cell_later hs10 c_o_0
        replace c_o_1 := cell_later hs10 c_o_1
        replace c_o_2 := cell_later hs10 c_o_2
        replace c_o_3 := cell_later hs10 c_o_3
        replace c_o_4 := cell_later hs10 c_o_4
        replace c_o_5 := cell_later hs10 c_o_5
        replace c_o_6 := cell_later hs10 c_o_6
        replace c_o_7 := cell_later hs10 c_o_7
        replace c_o_8 := cell_later hs10 c_o_8
        clear z_o
        have z_o := World.block_lt_of_cell? _ _ c_o_0
        clear z_r
        have z_r := World.block_lt_of_cell? _ _ c_r_0
        have hB10 := below_two hB9 hs10
        clear hB9 hs10
        obtain ⟨m0, m1, m2, m3, m4, m5, m6, m7, m8⟩ := put9_of (x0 := .int .i64 0) (x1 := .slice none 0 0) (x2 := .slice none 0 0) (x3 := .int .i64 0) (x4 := .int .i64 0) (x5 := .int .i64 0) (x6 := .int .i64 0) (x7 := .slice none 0 0) (x8 := .string ⟨#[]⟩) c_r_0 c_r_1 c_r_2 c_r_3 c_r_4 c_r_5 c_r_6 c_r_7 c_r_8
        go_wp2
        exact bodyPost_ret (v := .tuple #[.agg #[.int .i64 0, .slice none 0 0, .slice none 0 0, .int .i64 0, .int .i64 0, .int .i64 0, .int .i64 0, .slice none 0 0, .string ⟨#[]⟩], .int .i64 60]) (by simp [results, Tryd.results18, go_sem, m0, m1, m2, m3, m4, m5, m6, m7, m8]) rfl (evRes_zero rfl (put9_below hB10 (by omega)))
      · have HQ := Lib.hid hq
        obtain rfl : r = (⟨1, PS, TS, b, d, n, e0, ms, str⟩, 0) := by have := HRES.out; unfold Evt.rightAlone at this; rw [hone, hq] at this; exact this.symm
        clear hq hone HRES HONE
        go_wp2_with fail
        have n_o_0 : (((w6.setCell ⟨A, 1, none⟩ (.slice pp PS.length cp)).setCell ⟨A, 2, none⟩ (.slice pt' TS.length ct)).setCell ⟨A, 0, none⟩ (.int .i64 1)).cell? ⟨A, 0, none⟩ = some (.int .i64 1) := set_same (set_held (set_held (held_of c_o_0)))
        have n_r_0 : (((w6.setCell ⟨A, 1, none⟩ (.slice pp PS.length cp)).setCell ⟨A, 2, none⟩ (.slice pt' TS.length ct)).setCell ⟨A, 0, none⟩ (.int .i64 1)).cell? ⟨w.heap.size, 0, none⟩ = some (.int .i64 0) := set_far (by omega) (set_far (by omega) (set_far (by omega) c_r_0))
        have nf_r_0 : (((w6.setCell ⟨A, 1, none⟩ (.slice pp PS.length cp)).setCell ⟨A, 2, none⟩ (.slice pt' TS.length ct)).setCell ⟨A, 0, none⟩ (.int .i64 1)).frozen? ⟨w.heap.size, 0, none⟩ = false := set_frozen (set_frozen (set_frozen f_r_0))
        have n_o_1 : (((w6.setCell ⟨A, 1, none⟩ (.slice pp PS.length cp)).setCell ⟨A, 2, none⟩ (.slice pt' TS.length ct)).setCell ⟨A, 0, none⟩ (.int .i64 1)).cell? ⟨A, 1, none⟩ = some (.slice pp PS.length cp) := set_beside (by decide) (set_beside (by decide) (set_same (held_of c_o_1)))
        have n_r_1 : (((w6.setCell ⟨A, 1, none⟩ (.slice pp PS.length cp)).setCell ⟨A, 2, none⟩ (.slice pt' TS.length ct)).setCell ⟨A, 0, none⟩ (.int .i64 1)).cell? ⟨w.heap.size, 1, none⟩ = some (.slice none 0 0) := set_far (by omega) (set_far (by omega) (set_far (by omega) c_r_1))
        have nf_r_1 : (((w6.setCell ⟨A, 1, none⟩ (.slice pp PS.length cp)).setCell ⟨A, 2, none⟩ (.slice pt' TS.length ct)).setCell ⟨A, 0, none⟩ (.int .i64 1)).frozen? ⟨w.heap.size, 1, none⟩ = false := set_frozen (set_frozen (set_frozen f_r_1))
        have n_o_2 : (((w6.setCell ⟨A, 1, none⟩ (.slice pp PS.length cp)).setCell ⟨A, 2, none⟩ (.slice pt' TS.length ct)).setCell ⟨A, 0, none⟩ (.int .i64 1)).cell? ⟨A, 2, none⟩ = some (.slice pt' TS.length ct) := set_beside (by decide) (set_same (set_held (held_of c_o_2)))
        have n_r_2 : (((w6.setCell ⟨A, 1, none⟩ (.slice pp PS.length cp)).setCell ⟨A, 2, none⟩ (.slice pt' TS.length ct)).setCell ⟨A, 0, none⟩ (.int .i64 1)).cell? ⟨w.heap.size, 2, none⟩ = some (.slice none 0 0) := set_far (by omega) (set_far (by omega) (set_far (by omega) c_r_2))
        have nf_r_2 : (((w6.setCell ⟨A, 1, none⟩ (.slice pp PS.length cp)).setCell ⟨A, 2, none⟩ (.slice pt' TS.length ct)).setCell ⟨A, 0, none⟩ (.int .i64 1)).frozen? ⟨w.heap.size, 2, none⟩ = false := set_frozen (set_frozen (set_frozen f_r_2))
        have n_o_3 : (((w6.setCell ⟨A, 1, none⟩ (.slice pp PS.length cp)).setCell ⟨A, 2, none⟩ (.slice pt' TS.length ct)).setCell ⟨A, 0, none⟩ (.int .i64 1)).cell? ⟨A, 3, none⟩ = some (.int .i64 b) := set_beside (by decide) (set_beside (by decide) (set_beside (by decide) c_o_3))
        have n_r_3 : (((w6.setCell ⟨A, 1, none⟩ (.slice pp PS.length cp)).setCell ⟨A, 2, none⟩ (.slice pt' TS.length ct)).setCell ⟨A, 0, none⟩ (.int .i64 1)).cell? ⟨w.heap.size, 3, none⟩ = some (.int .i64 0) := set_far (by omega) (set_far (by omega) (set_far (by omega) c_r_3))
        have nf_r_3 : (((w6.setCell ⟨A, 1, none⟩ (.slice pp PS.length cp)).setCell ⟨A, 2, none⟩ (.slice pt' TS.length ct)).setCell ⟨A, 0, none⟩ (.int .i64 1)).frozen? ⟨w.heap.size, 3, none⟩ = false := set_frozen (set_frozen (set_frozen f_r_3))
        have n_o_4 : (((w6.setCell ⟨A, 1, none⟩ (.slice pp PS.length cp)).setCell ⟨A, 2, none⟩ (.slice pt' TS.length ct)).setCell ⟨A, 0, none⟩ (.int .i64 1)).cell? ⟨A, 4, none⟩ = some (.int .i64 d) := set_beside (by decide) (set_beside (by decide) (set_beside (by decide) c_o_4))
        have n_r_4 : (((w6.setCell ⟨A, 1, none⟩ (.slice pp PS.length cp)).setCell ⟨A, 2, none⟩ (.slice pt' TS.length ct)).setCell ⟨A, 0, none⟩ (.int .i64 1)).cell? ⟨w.heap.size, 4, none⟩ = some (.int .i64 0) := set_far (by omega) (set_far (by omega) (set_far (by omega) c_r_4))
        have nf_r_4 : (((w6.setCell ⟨A, 1, none⟩ (.slice pp PS.length cp)).setCell ⟨A, 2, none⟩ (.slice pt' TS.length ct)).setCell ⟨A, 0, none⟩ (.int .i64 1)).frozen? ⟨w.heap.size, 4, none⟩ = false := set_frozen (set_frozen (set_frozen f_r_4))
        have n_o_5 : (((w6.setCell ⟨A, 1, none⟩ (.slice pp PS.length cp)).setCell ⟨A, 2, none⟩ (.slice pt' TS.length ct)).setCell ⟨A, 0, none⟩ (.int .i64 1)).cell? ⟨A, 5, none⟩ = some (.int .i64 n) := set_beside (by decide) (set_beside (by decide) (set_beside (by decide) c_o_5))
        have n_r_5 : (((w6.setCell ⟨A, 1, none⟩ (.slice pp PS.length cp)).setCell ⟨A, 2, none⟩ (.slice pt' TS.length ct)).setCell ⟨A, 0, none⟩ (.int .i64 1)).cell? ⟨w.heap.size, 5, none⟩ = some (.int .i64 0) := set_far (by omega) (set_far (by omega) (set_far (by omega) c_r_5))
        have nf_r_5 : (((w6.setCell ⟨A, 1, none⟩ (.slice pp PS.length cp)).setCell ⟨A, 2, none⟩ (.slice pt' TS.length ct)).setCell ⟨A, 0, none⟩ (.int .i64 1)).frozen? ⟨w.heap.size, 5, none⟩ = false := set_frozen (set_frozen (set_frozen f_r_5))
        have n_o_6 : (((w6.setCell ⟨A, 1, none⟩ (.slice pp PS.length cp)).setCell ⟨A, 2, none⟩ (.slice pt' TS.length ct)).setCell ⟨A, 0, none⟩ (.int .i64 1)).cell? ⟨A, 6, none⟩ = some (.int .i64 e0) := set_beside (by decide) (set_beside (by decide) (set_beside (by decide) c_o_6))
        have n_r_6 : (((w6.setCell ⟨A, 1, none⟩ (.slice pp PS.length cp)).setCell ⟨A, 2, none⟩ (.slice pt' TS.length ct)).setCell ⟨A, 0, none⟩ (.int .i64 1)).cell? ⟨w.heap.size, 6, none⟩ = some (.int .i64 0) := set_far (by omega) (set_far (by omega) (set_far (by omega) c_r_6))
        have nf_r_6 : (((w6.setCell ⟨A, 1, none⟩ (.slice pp PS.length cp)).setCell ⟨A, 2, none⟩ (.slice pt' TS.length ct)).setCell ⟨A, 0, none⟩ (.int .i64 1)).frozen? ⟨w.heap.size, 6, none⟩ = false := set_frozen (set_frozen (set_frozen f_r_6))
        have n_o_7 : (((w6.setCell ⟨A, 1, none⟩ (.slice pp PS.length cp)).setCell ⟨A, 2, none⟩ (.slice pt' TS.length ct)).setCell ⟨A, 0, none⟩ (.int .i64 1)).cell? ⟨A, 7, none⟩ = some (.slice pm ms.length cm) := set_beside (by decide) (set_beside (by decide) (set_beside (by decide) c_o_7))
        have n_r_7 : (((w6.setCell ⟨A, 1, none⟩ (.slice pp PS.length cp)).setCell ⟨A, 2, none⟩ (.slice pt' TS.length ct)).setCell ⟨A, 0, none⟩ (.int .i64 1)).cell? ⟨w.heap.size, 7, none⟩ = some (.slice none 0 0) := set_far (by omega) (set_far (by omega) (set_far (by omega) c_r_7))
        have nf_r_7 : (((w6.setCell ⟨A, 1, none⟩ (.slice pp PS.length cp)).setCell ⟨A, 2, none⟩ (.slice pt' TS.length ct)).setCell ⟨A, 0, none⟩ (.int .i64 1)).frozen? ⟨w.heap.size, 7, none⟩ = false := set_frozen (set_frozen (set_frozen f_r_7))
        have n_o_8 : (((w6.setCell ⟨A, 1, none⟩ (.slice pp PS.length cp)).setCell ⟨A, 2, none⟩ (.slice pt' TS.length ct)).setCell ⟨A, 0, none⟩ (.int .i64 1)).cell? ⟨A, 8, none⟩ = some (.string str) := set_beside (by decide) (set_beside (by decide) (set_beside (by decide) c_o_8))
        have n_r_8 : (((w6.setCell ⟨A, 1, none⟩ (.slice pp PS.length cp)).setCell ⟨A, 2, none⟩ (.slice pt' TS.length ct)).setCell ⟨A, 0, none⟩ (.int .i64 1)).cell? ⟨w.heap.size, 8, none⟩ = some (.string ⟨#[]⟩) := set_far (by omega) (set_far (by omega) (set_far (by omega) c_r_8))
        have nf_r_8 : (((w6.setCell ⟨A, 1, none⟩ (.slice pp PS.length cp)).setCell ⟨A, 2, none⟩ (.slice pt' TS.length ct)).setCell ⟨A, 0, none⟩ (.int .i64 1)).frozen? ⟨w.heap.size, 8, none⟩ = false := set_frozen (set_frozen (set_frozen f_r_8))
        have N1 : Hid (Pits (((w6.setCell ⟨A, 1, none⟩ (.slice pp PS.length cp)).setCell ⟨A, 2, none⟩ (.slice pt' TS.length ct)).setCell ⟨A, 0, none⟩ (.int .i64 1)) (.slice pp PS.length cp) PS) := Lib.hid ((((HVP.out).set HOP.out hAc).set HOP.out hAc).set HOP.out hAc)
        have N2 : Hid (Bools (((w6.setCell ⟨A, 1, none⟩ (.slice pp PS.length cp)).setCell ⟨A, 2, none⟩ (.slice pt' TS.length ct)).setCell ⟨A, 0, none⟩ (.int .i64 1)) (.slice pt' TS.length ct) TS) := Lib.hid ((((HVT.out).set HOT.out hAc).set HOT.out hAc).set HOT.out hAc)
        have N3 : Hid (Ints (((w6.setCell ⟨A, 1, none⟩ (.slice pp PS.length cp)).setCell ⟨A, 2, none⟩ (.slice pt' TS.length ct)).setCell ⟨A, 0, none⟩ (.int .i64 1)) (.slice pm ms.length cm) ms) := Lib.hid ((((HVM.out).set_ne HNE.out).set_ne HNE.out).set_ne HNE.out)
        have hB9 : Below w.heap.size w (((w6.setCell ⟨A, 1, none⟩ (.slice pp PS.length cp)).setCell ⟨A, 2, none⟩ (.slice pt' TS.length ct)).setCell ⟨A, 0, none⟩ (.int .i64 1)) := set1_below (set1_below (set1_below (hB6) (by omega)) (by omega)) (by omega)
        clear c_o_0 f_o_0 c_r_0 f_r_0 c_o_1 f_o_1 c_r_1 f_r_1 c_o_2 f_o_2 c_r_2 f_r_2 c_o_3 f_o_3 c_r_3 f_r_3 c_o_4 f_o_4 c_r_4 f_r_4 c_o_5 f_o_5 c_r_5 f_r_5 c_o_6 f_o_6 c_r_6 f_r_6 c_o_7 f_o_7 c_r_7 f_r_7 c_o_8 f_o_8 c_r_8 f_r_8 z_o z_r hB6 HVP HVT HVM HC
        generalize (((w6.setCell ⟨A, 1, none⟩ (.slice pp PS.length cp)).setCell ⟨A, 2, none⟩ (.slice pt' TS.length ct)).setCell ⟨A, 0, none⟩ (.int .i64 1)) = w9 at *
        have c_r_0 := n_r_0
        have f_r_0 := nf_r_0
        clear n_r_0 nf_r_0
        have c_o_0 := n_o_0
        clear n_o_0
        have c_r_1 := n_r_1
        have f_r_1 := nf_r_1
        clear n_r_1 nf_r_1
        have c_o_1 := n_o_1
        clear n_o_1
        have c_r_2 := n_r_2
        have f_r_2 := nf_r_2
        clear n_r_2 nf_r_2
        have c_o_2 := n_o_2
        clear n_o_2
        have c_r_3 := n_r_3
        have f_r_3 := nf_r_3
        clear n_r_3 nf_r_3
        have c_o_3 := n_o_3
        clear n_o_3
        have c_r_4 := n_r_4
        have f_r_4 := nf_r_4
        clear n_r_4 nf_r_4
        have c_o_4 := n_o_4
        clear n_o_4
        have c_r_5 := n_r_5
        have f_r_5 := nf_r_5
        clear n_r_5 nf_r_5
        have c_o_5 := n_o_5
        clear n_o_5
        have c_r_6 := n_r_6
        have f_r_6 := nf_r_6
        clear n_r_6 nf_r_6
        have c_o_6 := n_o_6
        clear n_o_6
        have c_r_7 := n_r_7
        have f_r_7 := nf_r_7
        clear n_r_7 nf_r_7
        have c_o_7 := n_o_7
        clear n_o_7
        have c_r_8 := n_r_8
        have f_r_8 := nf_r_8
        clear n_r_8 nf_r_8
        have c_o_8 := n_o_8
        clear n_o_8
        have z_o := World.block_lt_of_cell? _ _ c_o_0
        have z_r := World.block_lt_of_cell? _ _ c_r_0
        go_wp2_with fail
        have hR' := hR.below hB9
        refine (rightAlone_yes ⟨1, PS, TS, b, d, n, e0, ms, str⟩ _ _ _ _ ⟨N1.out, N2.out, N3.out, hsz⟩ hR' HQ).mono ?_
        rintro e w10 ⟨rfl, hb10⟩
        clear hR'
        have hs10 := hb10
        replace N1 := Lib.hid (N1.out.later hs10)
        replace N2 := Lib.hid (N2.out.later hs10)
        replace N3 := Lib.hid (N3.out.later hs10)
        replace f_r_0 := frozen_later hs10 c_r_0 f_r_0
        replace c_r_0 := cell_later hs10 c_r_0
        replace f_r_1 := frozen_later hs10 c_r_1 f_r_1
        replace c_r_1 := cell_later hs10 c_r_1
        replace f_r_2 := frozen_later hs10 c_r_2 f_r_2
        replace c_r_2 := cell_later hs10 c_r_2
        replace f_r_3 := frozen_later hs10 c_r_3 f_r_3
        replace c_r_3 := cell_later hs10 c_r_3
        replace f_r_4 := frozen_later hs10 c_r_4 f_r_4
        replace c_r_4 := cell_later hs10 c_r_4
        replace f_r_5 := frozen_later hs10 c_r_5 f_r_5
        replace c_r_5 := cell_later hs10 c_r_5
        replace f_r_6 := frozen_later hs10 c_r_6 f_r_6
        replace c_r_6 := cell_later hs10 c_r_6
        replace f_r_7 := frozen_later hs10 c_r_7 f_r_7
        replace c_r_7 := cell_later hs10 c_r_7
        replace f_r_8 := frozen_later hs10 c_r_8 f_r_8
        replace c_r_8 := cell_later hs10 c_r_8
        replace c_o_0 := cell_later hs10 c_o_0
        replace c_o_1 := cell_later hs10 c_o_1
        replace c_o_2 := cell_later hs10 c_o_2
        replace c_o_3 := cell_later hs10 c_o_3
        replace c_o_4 := cell_later hs10 c_o_4
        replace c_o_5 := cell_later hs10 c_o_5
        replace c_o_6 := cell_later hs10 c_o_6
        replace c_o_7 := cell_later hs10 c_o_7
        replace c_o_8 := cell_later hs10 c_o_8
        clear z_o
        have z_o := World.block_lt_of_cell? _ _ c_o_0
        clear z_r
        have z_r := World.block_lt_of_cell? _ _ c_r_0
        have hB10 := below_two hB9 hs10
        clear hB9 hs10
        obtain ⟨m0, m1, m2, m3, m4, m5, m6, m7, m8⟩ := put9_of (x0 := .int .i64 1) (x1 := .slice pp PS.length cp) (x2 := .slice pt' TS.length ct) (x3 := .int .i64 b) (x4 := .int .i64 d) (x5 := .int .i64 n) (x6 := .int .i64 e0) (x7 := .slice pm ms.length cm) (x8 := .string str) c_r_0 c_r_1 c_r_2 c_r_3 c_r_4 c_r_5 c_r_6 c_r_7 c_r_8
        go_wp2
        exact bodyPost_ret (v := .tuple #[.agg #[.int .i64 1, .slice pp PS.length cp, .slice pt' TS.length ct, .int .i64 b, .int .i64 d, .int .i64 n, .int .i64 e0, .slice pm ms.length cm, .string str], .int .i64 0]) (by simp [results, Tryd.results18, go_sem, m0, m1, m2, m3, m4, m5, m6, m7, m8]) rfl ⟨_, _, _, rfl, put9_evr ⟨N1.out, N2.out, N3.out, hsz⟩ (HOP.out.mono hwc) (HOT.out.mono hwc) (HOM.out.mono hwA), put9_below hB10 (by omega)⟩

theorem chord_any (v : Value) (ys : List EM) (w : World) (h : Evs w v ys) (hl : ys.length ≤ 100000) (hR : Ready w) : Calls Tryd.prog 18 #[v] w (EvRes (Evt.chordE (ys.map Prod.fst)) w) := by
  by_cases ht : tog (ys.map Prod.fst) = 0
  · cases ys with
    | nil => simp [tog] at ht
    | cons y l =>
      rw [List.map_cons] at ht ⊢
      obtain ⟨e1, e2⟩ := chordE_ok _ _ ht
      rw [e1]
      exact chord_walk v (y :: l) w h hR (Lib.hid ht) (Lib.hid fun z hz => e2 z.1 (by rw [← List.map_cons]; exact List.mem_map_of_mem hz)) hl y rfl _ (Lib.hid rfl) _ (Lib.hid rfl)
  · rw [chordE_tog _ ht]
    exact (chord_err v ys w h hR _ (Lib.hid rfl) (by simpa using ht)).mono fun _ _ ⟨a, b⟩ => evRes_zero a b
end Go.Proofs.YtnfnonlbokddfaaDoor
