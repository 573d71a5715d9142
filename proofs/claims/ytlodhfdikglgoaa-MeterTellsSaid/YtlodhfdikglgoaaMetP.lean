/-
  The contracts of the reference's within and Weight.
-/
import Derived.Test.YtlodhfdikglgoaaMetO
namespace Go.Proofs.Ytlodhfdikglgoaa
open Go.RowKit

theorem refLength_right {q d : Int} {v : Value} {gs : List Int} {w : World} (hI : Ints w v gs) (hr : Met.right q d gs = true) {x y : Int} (h : Met.of q d = (x, y)) :
    Calls Try.prog 13 #[mt q d v] w fun ed w' => ed = .returned (rvp (x, y) 0) ∧ Below w.heap.size w w' := by have := refLength_1 q d v gs w hI hr; rw [h] at this; exact this
theorem refRightP {a b : Int} (ha : Rat.I64 a) (hb : Rat.I64 b) {t : Bool} (h : Met.ok (a, b) = t) (w : World) :
    Calls Try.prog 44 #[rt a b] w fun ed w' => ed = .returned (.bool t) ∧ Below w.heap.size w w' := by have := refRight_any a b w ha hb; unfold Met.ok at h; rw [h] at this; exact this
theorem refCompareP (p q : Met.Pr) (h1 : Rat.I64 p.1) (h2 : Rat.I64 p.2) (h3 : Rat.I64 q.1) (h4 : Rat.I64 q.2) (w : World) :
    Calls Try.prog 46 #[rp p, rp q] w fun ed w' => ed = .returned (.int .i64 (Met.cm p q)) ∧ Below w.heap.size w w' := refCompare_any p.1 p.2 q.1 q.2 w h1 h2 h3 h4
theorem refAddP (p q : Met.Pr) (h1 : Rat.I64 p.1) (h2 : Rat.I64 p.2) (h3 : Rat.I64 q.1) (h4 : Rat.I64 q.2) (w : World) :
    Calls Try.prog 45 #[rp p, rp q] w fun ed w' => ed = .returned (rvp (Met.ad p q) (Met.adE p q)) ∧ Below w.heap.size w w' := refAdd_any p.1 p.2 q.1 q.2 w h1 h2 h3 h4
theorem refSubP (p q : Met.Pr) (h1 : Rat.I64 p.1) (h2 : Rat.I64 p.2) (h3 : Rat.I64 q.1) (h4 : Rat.I64 q.2) (w : World) :
    Calls Try.prog 47 #[rp p, rp q] w fun ed w' => ed = .returned (rvp (Met.sb p q) (Met.sbE p q)) ∧ Below w.heap.size w w' := refSub_any p.1 p.2 q.1 q.2 w h1 h2 h3 h4
theorem right_i64 {a b : Int} (h : Rat.IsRight a b) : Rat.I64 a ∧ Rat.I64 b := by
  have h1 := h.d1; have h2 := h.dM; have h3 := h.n0; have h4 := h.nM; have hM := Rat.M_eq
  exact ⟨i64_small (by omega) (by omega), i64_small (by omega) (by omega)⟩
theorem of_i64 {q d : Int} {gs : List Int} (hr : Met.right q d gs = true) : Rat.I64 (Met.of q d).1 ∧ Rat.I64 (Met.of q d).2 := by
  exact right_i64 (Met.isRight hr).bar.r

set_option maxRecDepth 100000 in
set_option maxHeartbeats 4000000 in
theorem refWithin_0 (q d : Int) (v : Value) (gs : List Int) (a b : Int) (w : World) (hI : Ints w v gs) (hr : Met.right q d gs = true) (ia : Rat.I64 a) (ib : Rat.I64 b) (h1 : Met.ok (a, b) = false) :
    Calls Try.prog 41 #[mt q d v, rt a b] w fun ed w' => ed = .returned (.bool false) ∧ Below w.heap.size w w' := by
  obtain ⟨p, cap, rfl, hl, hc⟩ := hI
  have HI : Hid (Ints w (.slice p gs.length cap) gs) := Lib.hid ⟨p, cap, rfl, hl, hc⟩
  clear hl hc
  obtain ⟨X, HX⟩ : ∃ X, Hid (Met.of q d = X) := ⟨_, Lib.hid rfl⟩
  obtain ⟨x, y⟩ := X
  have HIX : Hid (Rat.I64 x ∧ Rat.I64 y) := Lib.hid (by have := of_i64 hr; rw [HX.out] at this; exact this)
  have HIA := Lib.hid (And.intro ia ib)
  clear ia ib
  have hB0 : Below w.heap.size w w := Below.refl _ _
  go_enter Try.func41, Try.ntmps41
  go_wp2_with fail
  refine (refLength_right (HI.out.later ((hB0.alloc hB0.size (.cells #[.int .i64 q, .int .i64 d, .slice p gs.length cap] 24)).alloc (hB0.alloc hB0.size (.cells #[.int .i64 q, .int .i64 d, .slice p gs.length cap] 24)).size (.cells #[.int .i64 a, .int .i64 b] 26))) hr HX.out).mono ?_
  rintro e w1 ⟨rfl, hb1⟩
  have hs1 : Below w.heap.size w w1 := Below.trans (by repeat (first | exact Below.refl _ _ | refine Below.alloc ?_ (by simp <;> omega) _)) (hb1.mono (by simp <;> omega))
  have c_m_0 : w1.cell? ⟨w.heap.size, 0, none⟩ = some (.int .i64 q) := (hb1.cell (by simp <;> omega)).trans (by go_simp)
  have c_m_1 : w1.cell? ⟨w.heap.size, 1, none⟩ = some (.int .i64 d) := (hb1.cell (by simp <;> omega)).trans (by go_simp)
  have c_m_2 : w1.cell? ⟨w.heap.size, 2, none⟩ = some (.slice p gs.length cap) := (hb1.cell (by simp <;> omega)).trans (by go_simp)
  have c_a_0 : w1.cell? ⟨w.heap.size + 1, 0, none⟩ = some (.int .i64 a) := (hb1.cell (by simp <;> omega)).trans (by go_simp)
  have c_a_1 : w1.cell? ⟨w.heap.size + 1, 1, none⟩ = some (.int .i64 b) := (hb1.cell (by simp <;> omega)).trans (by go_simp)
  have z_a := World.block_lt_of_cell? _ _ c_a_0
  have z_m := World.block_lt_of_cell? _ _ c_m_0
  have hB1 := below_two hB0 hs1
  clear hB0 hs1 hb1
  go_wp2_with fail
  refine (refRightP HIA.out.1 HIA.out.2 h1 _).mono ?_
  rintro e w2 ⟨rfl, hb2⟩
  have hs2 : Below w1.heap.size w1 w2 := Below.trans (by repeat (first | exact Below.refl _ _ | refine Below.alloc ?_ (by simp <;> omega) _)) (hb2.mono (by simp <;> omega))
  replace c_m_0 := cell_later hs2 c_m_0
  replace c_m_1 := cell_later hs2 c_m_1
  replace c_m_2 := cell_later hs2 c_m_2
  replace c_a_0 := cell_later hs2 c_a_0
  replace c_a_1 := cell_later hs2 c_a_1
  have c_l_0 : w2.cell? ⟨w1.heap.size, 0, none⟩ = some (.int .i64 x) := (hb2.cell (by simp <;> omega)).trans (by go_simp)
  have c_l_1 : w2.cell? ⟨w1.heap.size, 1, none⟩ = some (.int .i64 y) := (hb2.cell (by simp <;> omega)).trans (by go_simp)
  clear z_a
  have z_a := World.block_lt_of_cell? _ _ c_a_0
  have z_l := World.block_lt_of_cell? _ _ c_l_0
  clear z_m
  have z_m := World.block_lt_of_cell? _ _ c_m_0
  have hB2 := below_two hB1 hs2
  clear hB1 hs2 hb2
  go_wp2
  go_ret
  exact ⟨rfl, hB2⟩

set_option maxRecDepth 100000 in
set_option maxHeartbeats 4000000 in
theorem refWithin_1 (q d : Int) (v : Value) (gs : List Int) (a b : Int) (w : World) (hI : Ints w v gs) (hr : Met.right q d gs = true) (ia : Rat.I64 a) (ib : Rat.I64 b) (h1 : Met.ok (a, b) = true) (h2 : ¬ 0 ≤ a) :
    Calls Try.prog 41 #[mt q d v, rt a b] w fun ed w' => ed = .returned (.bool false) ∧ Below w.heap.size w w' := by
  obtain ⟨p, cap, rfl, hl, hc⟩ := hI
  have HI : Hid (Ints w (.slice p gs.length cap) gs) := Lib.hid ⟨p, cap, rfl, hl, hc⟩
  clear hl hc
  obtain ⟨X, HX⟩ : ∃ X, Hid (Met.of q d = X) := ⟨_, Lib.hid rfl⟩
  obtain ⟨x, y⟩ := X
  have HIX : Hid (Rat.I64 x ∧ Rat.I64 y) := Lib.hid (by have := of_i64 hr; rw [HX.out] at this; exact this)
  have HIA := Lib.hid (And.intro ia ib)
  clear ia ib
  have hB0 : Below w.heap.size w w := Below.refl _ _
  go_enter Try.func41, Try.ntmps41
  go_wp2_with fail
  refine (refLength_right (HI.out.later ((hB0.alloc hB0.size (.cells #[.int .i64 q, .int .i64 d, .slice p gs.length cap] 24)).alloc (hB0.alloc hB0.size (.cells #[.int .i64 q, .int .i64 d, .slice p gs.length cap] 24)).size (.cells #[.int .i64 a, .int .i64 b] 26))) hr HX.out).mono ?_
  rintro e w1 ⟨rfl, hb1⟩
  have hs1 : Below w.heap.size w w1 := Below.trans (by repeat (first | exact Below.refl _ _ | refine Below.alloc ?_ (by simp <;> omega) _)) (hb1.mono (by simp <;> omega))
  have c_m_0 : w1.cell? ⟨w.heap.size, 0, none⟩ = some (.int .i64 q) := (hb1.cell (by simp <;> omega)).trans (by go_simp)
  have c_m_1 : w1.cell? ⟨w.heap.size, 1, none⟩ = some (.int .i64 d) := (hb1.cell (by simp <;> omega)).trans (by go_simp)
  have c_m_2 : w1.cell? ⟨w.heap.size, 2, none⟩ = some (.slice p gs.length cap) := (hb1.cell (by simp <;> omega)).trans (by go_simp)
  have c_a_0 : w1.cell? ⟨w.heap.size + 1, 0, none⟩ = some (.int .i64 a) := (hb1.cell (by simp <;> omega)).trans (by go_simp)
  have c_a_1 : w1.cell? ⟨w.heap.size + 1, 1, none⟩ = some (.int .i64 b) := (hb1.cell (by simp <;> omega)).trans (by go_simp)
  have z_a := World.block_lt_of_cell? _ _ c_a_0
  have z_m := World.block_lt_of_cell? _ _ c_m_0
  have hB1 := below_two hB0 hs1
  clear hB0 hs1 hb1
  go_wp2_with fail
  refine (refRightP HIA.out.1 HIA.out.2 h1 _).mono ?_
  rintro e w2 ⟨rfl, hb2⟩
  have hs2 : Below w1.heap.size w1 w2 := Below.trans (by repeat (first | exact Below.refl _ _ | refine Below.alloc ?_ (by simp <;> omega) _)) (hb2.mono (by simp <;> omega))
  replace c_m_0 := cell_later hs2 c_m_0
  replace c_m_1 := cell_later hs2 c_m_1
  replace c_m_2 := cell_later hs2 c_m_2
  replace c_a_0 := cell_later hs2 c_a_0
  replace c_a_1 := cell_later hs2 c_a_1
  have c_l_0 : w2.cell? ⟨w1.heap.size, 0, none⟩ = some (.int .i64 x) := (hb2.cell (by simp <;> omega)).trans (by go_simp)
  have c_l_1 : w2.cell? ⟨w1.heap.size, 1, none⟩ = some (.int .i64 y) := (hb2.cell (by simp <;> omega)).trans (by go_simp)
  clear z_a
  have z_a := World.block_lt_of_cell? _ _ c_a_0
  have z_l := World.block_lt_of_cell? _ _ c_l_0
  clear z_m
  have z_m := World.block_lt_of_cell? _ _ c_m_0
  have hB2 := below_two hB1 hs2
  clear hB1 hs2 hb2
  go_wp2
  go_ret
  exact ⟨rfl, hB2⟩

set_option maxRecDepth 100000 in
set_option maxHeartbeats 4000000 in
theorem refWithin_2 (q d : Int) (v : Value) (gs : List Int) (a b : Int) (w : World) (hI : Ints w v gs) (hr : Met.right q d gs = true) (ia : Rat.I64 a) (ib : Rat.I64 b) (h1 : Met.ok (a, b) = true) (h2 : 0 ≤ a) :
    Calls Try.prog 41 #[mt q d v, rt a b] w fun ed w' => ed = .returned (.bool (decide (Met.cm (a, b) (Met.of q d) < 0))) ∧ Below w.heap.size w w' := by
  obtain ⟨p, cap, rfl, hl, hc⟩ := hI
  have HI : Hid (Ints w (.slice p gs.length cap) gs) := Lib.hid ⟨p, cap, rfl, hl, hc⟩
  clear hl hc
  obtain ⟨X, HX⟩ : ∃ X, Hid (Met.of q d = X) := ⟨_, Lib.hid rfl⟩
  obtain ⟨x, y⟩ := X
  have HIX : Hid (Rat.I64 x ∧ Rat.I64 y) := Lib.hid (by have := of_i64 hr; rw [HX.out] at this; exact this)
  have HIA := Lib.hid (And.intro ia ib)
  clear ia ib
  have hB0 : Below w.heap.size w w := Below.refl _ _
  go_enter Try.func41, Try.ntmps41
  go_wp2_with fail
  refine (refLength_right (HI.out.later ((hB0.alloc hB0.size (.cells #[.int .i64 q, .int .i64 d, .slice p gs.length cap] 24)).alloc (hB0.alloc hB0.size (.cells #[.int .i64 q, .int .i64 d, .slice p gs.length cap] 24)).size (.cells #[.int .i64 a, .int .i64 b] 26))) hr HX.out).mono ?_
  rintro e w1 ⟨rfl, hb1⟩
  have hs1 : Below w.heap.size w w1 := Below.trans (by repeat (first | exact Below.refl _ _ | refine Below.alloc ?_ (by simp <;> omega) _)) (hb1.mono (by simp <;> omega))
  have c_m_0 : w1.cell? ⟨w.heap.size, 0, none⟩ = some (.int .i64 q) := (hb1.cell (by simp <;> omega)).trans (by go_simp)
  have c_m_1 : w1.cell? ⟨w.heap.size, 1, none⟩ = some (.int .i64 d) := (hb1.cell (by simp <;> omega)).trans (by go_simp)
  have c_m_2 : w1.cell? ⟨w.heap.size, 2, none⟩ = some (.slice p gs.length cap) := (hb1.cell (by simp <;> omega)).trans (by go_simp)
  have c_a_0 : w1.cell? ⟨w.heap.size + 1, 0, none⟩ = some (.int .i64 a) := (hb1.cell (by simp <;> omega)).trans (by go_simp)
  have c_a_1 : w1.cell? ⟨w.heap.size + 1, 1, none⟩ = some (.int .i64 b) := (hb1.cell (by simp <;> omega)).trans (by go_simp)
  have z_a := World.block_lt_of_cell? _ _ c_a_0
  have z_m := World.block_lt_of_cell? _ _ c_m_0
  have hB1 := below_two hB0 hs1
  clear hB0 hs1 hb1
  go_wp2_with fail
  refine (refRightP HIA.out.1 HIA.out.2 h1 _).mono ?_
  rintro e w2 ⟨rfl, hb2⟩
  have hs2 : Below w1.heap.size w1 w2 := Below.trans (by repeat (first | exact Below.refl _ _ | refine Below.alloc ?_ (by simp <;> omega) _)) (hb2.mono (by simp <;> omega))
  replace c_m_0 := cell_later hs2 c_m_0
  replace c_m_1 := cell_later hs2 c_m_1
  replace c_m_2 := cell_later hs2 c_m_2
  replace c_a_0 := cell_later hs2 c_a_0
  replace c_a_1 := cell_later hs2 c_a_1
  have c_l_0 : w2.cell? ⟨w1.heap.size, 0, none⟩ = some (.int .i64 x) := (hb2.cell (by simp <;> omega)).trans (by go_simp)
  have c_l_1 : w2.cell? ⟨w1.heap.size, 1, none⟩ = some (.int .i64 y) := (hb2.cell (by simp <;> omega)).trans (by go_simp)
  clear z_a
  have z_a := World.block_lt_of_cell? _ _ c_a_0
  have z_l := World.block_lt_of_cell? _ _ c_l_0
  clear z_m
  have z_m := World.block_lt_of_cell? _ _ c_m_0
  have hB2 := below_two hB1 hs2
  clear hB1 hs2 hb2
  go_wp2_with fail
  refine (refCompareP (a, b) (x, y) HIA.out.1 HIA.out.2 HIX.out.1 HIX.out.2 _).mono ?_
  rintro e w3 ⟨rfl, hb3⟩
  have hs3 := hb3
  replace c_m_0 := cell_later hs3 c_m_0
  replace c_m_1 := cell_later hs3 c_m_1
  replace c_m_2 := cell_later hs3 c_m_2
  replace c_a_0 := cell_later hs3 c_a_0
  replace c_a_1 := cell_later hs3 c_a_1
  replace c_l_0 := cell_later hs3 c_l_0
  replace c_l_1 := cell_later hs3 c_l_1
  clear z_a
  have z_a := World.block_lt_of_cell? _ _ c_a_0
  clear z_l
  have z_l := World.block_lt_of_cell? _ _ c_l_0
  clear z_m
  have z_m := World.block_lt_of_cell? _ _ c_m_0
  have hB3 := below_two hB2 hs3
  clear hB2 hs3
  obtain ⟨m, HM⟩ : ∃ m, Hid (Met.cm (a, b) (x, y) = m) := ⟨_, Lib.hid rfl⟩
  rw [HM.out]
  go_wp2
  go_ret
  exact ⟨ret_bool (by rw [HX.out, HM.out]), hB3⟩

theorem refWithin_any (q d : Int) (v : Value) (gs : List Int) (a b : Int) (w : World) (hI : Ints w v gs) (hr : Met.right q d gs = true) (ia : Rat.I64 a) (ib : Rat.I64 b) :
    Calls Try.prog 41 #[mt q d v, rt a b] w fun ed w' => ed = .returned (.bool (Met.inB q d (a, b))) ∧ Below w.heap.size w w' := by
  unfold Met.inB
  cases h1 : Met.ok (a, b)
  · exact refWithin_0 q d v gs a b w hI hr ia ib h1
  · by_cases h2 : 0 ≤ a
    · have := refWithin_2 q d v gs a b w hI hr ia ib h1 h2
      rw [decide_eq_true h2]
      exact this
    · have := refWithin_1 q d v gs a b w hI hr ia ib h1 h2
      rw [decide_eq_false h2]
      exact this
theorem refWithin_is {q d : Int} {v : Value} {gs : List Int} {a b : Int} {w : World} (hI : Ints w v gs) (hr : Met.right q d gs = true) (ia : Rat.I64 a) (ib : Rat.I64 b) {t : Bool} (h : Met.inB q d (a, b) = t) :
    Calls Try.prog 41 #[mt q d v, rt a b] w fun ed w' => ed = .returned (.bool t) ∧ Below w.heap.size w w' := by have := refWithin_any q d v gs a b w hI hr ia ib; rw [h] at this; exact this

set_option maxRecDepth 100000 in
set_option maxHeartbeats 4000000 in
theorem refWeight_no (q d : Int) (v : Value) (gs : List Int) (a b : Int) (w : World) (hI : Ints w v gs) (ia : Rat.I64 a) (ib : Rat.I64 b) (hr : Met.right q d gs = false) :
    Calls Try.prog 23 #[mt q d v, rt a b] w fun ed w' => ed = .returned (.tuple #[.int .i64 0, .int .i64 50]) ∧ Below w.heap.size w w' := by
  obtain ⟨p, cap, rfl, hl, hc⟩ := hI
  have HI : Hid (Ints w (.slice p gs.length cap) gs) := Lib.hid ⟨p, cap, rfl, hl, hc⟩
  clear hl hc
  have HIA := Lib.hid (And.intro ia ib)
  clear ia ib
  have hB0 : Below w.heap.size w w := Below.refl _ _
  go_enter Try.func23, Try.ntmps23
  go_wp2_with fail
  refine (refBeats_wrong (HI.out.later ((hB0.alloc hB0.size (.cells #[.int .i64 q, .int .i64 d, .slice p gs.length cap] 24)).alloc (hB0.alloc hB0.size (.cells #[.int .i64 q, .int .i64 d, .slice p gs.length cap] 24)).size (.cells #[.int .i64 a, .int .i64 b] 26))) hr).mono ?_
  rintro e w1 ⟨⟨u1, rfl, _⟩, hb1⟩
  have hs1 : Below w.heap.size w w1 := Below.trans (by repeat (first | exact Below.refl _ _ | refine Below.alloc ?_ (by simp <;> omega) _)) (hb1.mono (by simp <;> omega))
  have c_m_0 : w1.cell? ⟨w.heap.size, 0, none⟩ = some (.int .i64 q) := (hb1.cell (by simp <;> omega)).trans (by go_simp)
  have c_m_1 : w1.cell? ⟨w.heap.size, 1, none⟩ = some (.int .i64 d) := (hb1.cell (by simp <;> omega)).trans (by go_simp)
  have c_m_2 : w1.cell? ⟨w.heap.size, 2, none⟩ = some (.slice p gs.length cap) := (hb1.cell (by simp <;> omega)).trans (by go_simp)
  have c_a_0 : w1.cell? ⟨w.heap.size + 1, 0, none⟩ = some (.int .i64 a) := (hb1.cell (by simp <;> omega)).trans (by go_simp)
  have c_a_1 : w1.cell? ⟨w.heap.size + 1, 1, none⟩ = some (.int .i64 b) := (hb1.cell (by simp <;> omega)).trans (by go_simp)
  have z_a := World.block_lt_of_cell? _ _ c_a_0
  have z_m := World.block_lt_of_cell? _ _ c_m_0
  have hB1 := below_two hB0 hs1
  clear hB0 hs1 hb1
  go_wp2
  go_ret2
  exact ⟨rfl, hB1⟩

set_option maxRecDepth 100000 in
set_option maxHeartbeats 4000000 in
theorem refWeight_out (q d : Int) (v : Value) (gs : List Int) (a b : Int) (w : World) (hI : Ints w v gs) (ia : Rat.I64 a) (ib : Rat.I64 b) (hr : Met.right q d gs = true) (h1 : Met.inB q d (a, b) = false) :
    Calls Try.prog 23 #[mt q d v, rt a b] w fun ed w' => ed = .returned (.tuple #[.int .i64 0, .int .i64 2]) ∧ Below w.heap.size w w' := by
  obtain ⟨p, cap, rfl, hl, hc⟩ := hI
  have HI : Hid (Ints w (.slice p gs.length cap) gs) := Lib.hid ⟨p, cap, rfl, hl, hc⟩
  clear hl hc
  have HIA := Lib.hid (And.intro ia ib)
  clear ia ib
  have hlen := (Met.isRight hr).len
  have HLB : Hid ((Met.bt q d gs).length = (Met.grp q d gs).length) := Lib.hid (by rw [Met.bt, Met.bts_length])
  rw [← HLB.out] at hlen
  obtain ⟨L, HL⟩ : ∃ L, Hid (Met.bt q d gs = L) := ⟨_, Lib.hid rfl⟩
  rw [HL.out] at hlen
  obtain ⟨hlen1, hlen2⟩ := hlen
  have hB0 : Below w.heap.size w w := Below.refl _ _
  go_enter Try.func23, Try.ntmps23
  go_wp2_with fail
  refine (refBeats_right (HI.out.later ((hB0.alloc hB0.size (.cells #[.int .i64 q, .int .i64 d, .slice p gs.length cap] 24)).alloc (hB0.alloc hB0.size (.cells #[.int .i64 q, .int .i64 d, .slice p gs.length cap] 24)).size (.cells #[.int .i64 a, .int .i64 b] 26))) hr HL.out).mono ?_
  rintro e w1 ⟨⟨u1, rfl, hP1⟩, hb1⟩
  have hs1 : Below w.heap.size w w1 := Below.trans (by repeat (first | exact Below.refl _ _ | refine Below.alloc ?_ (by simp <;> omega) _)) (hb1.mono (by simp <;> omega))
  have c_m_0 : w1.cell? ⟨w.heap.size, 0, none⟩ = some (.int .i64 q) := (hb1.cell (by simp <;> omega)).trans (by go_simp)
  have c_m_1 : w1.cell? ⟨w.heap.size, 1, none⟩ = some (.int .i64 d) := (hb1.cell (by simp <;> omega)).trans (by go_simp)
  have c_m_2 : w1.cell? ⟨w.heap.size, 2, none⟩ = some (.slice p gs.length cap) := (hb1.cell (by simp <;> omega)).trans (by go_simp)
  have c_a_0 : w1.cell? ⟨w.heap.size + 1, 0, none⟩ = some (.int .i64 a) := (hb1.cell (by simp <;> omega)).trans (by go_simp)
  have c_a_1 : w1.cell? ⟨w.heap.size + 1, 1, none⟩ = some (.int .i64 b) := (hb1.cell (by simp <;> omega)).trans (by go_simp)
  have z_a := World.block_lt_of_cell? _ _ c_a_0
  have z_m := World.block_lt_of_cell? _ _ c_m_0
  have hB1 := below_two hB0 hs1
  clear hB0 hs1 hb1
  have HP1 := Lib.hid hP1
  clear hP1
  go_wp2_with fail
  refine (refWithin_is (HI.out.later hB1) hr HIA.out.1 HIA.out.2 h1).mono ?_
  rintro e w2 ⟨rfl, hb2⟩
  have hs2 := hb2
  replace HP1 := Lib.hid (HP1.out.later hs2)
  replace c_m_0 := cell_later hs2 c_m_0
  replace c_m_1 := cell_later hs2 c_m_1
  replace c_m_2 := cell_later hs2 c_m_2
  replace c_a_0 := cell_later hs2 c_a_0
  replace c_a_1 := cell_later hs2 c_a_1
  clear z_a
  have z_a := World.block_lt_of_cell? _ _ c_a_0
  clear z_m
  have z_m := World.block_lt_of_cell? _ _ c_m_0
  have hB2 := below_two hB1 hs2
  clear hB1 hs2
  go_wp2
  go_ret2
  exact ⟨rfl, hB2⟩

set_option maxRecDepth 100000 in
set_option maxHeartbeats 4000000 in
theorem refWeight_zero (q d : Int) (v : Value) (gs : List Int) (a b : Int) (w : World) (hI : Ints w v gs) (ia : Rat.I64 a) (ib : Rat.I64 b) (hr : Met.right q d gs = true) (h1 : Met.inB q d (a, b) = true) (h2 : (a == 0) = true) :
    Calls Try.prog 23 #[mt q d v, rt a b] w fun ed w' => ed = .returned (.tuple #[.int .i64 3, .int .i64 0]) ∧ Below w.heap.size w w' := by
  obtain ⟨p, cap, rfl, hl, hc⟩ := hI
  have HI : Hid (Ints w (.slice p gs.length cap) gs) := Lib.hid ⟨p, cap, rfl, hl, hc⟩
  clear hl hc
  have HIA := Lib.hid (And.intro ia ib)
  clear ia ib
  have hlen := (Met.isRight hr).len
  have HLB : Hid ((Met.bt q d gs).length = (Met.grp q d gs).length) := Lib.hid (by rw [Met.bt, Met.bts_length])
  rw [← HLB.out] at hlen
  obtain ⟨L, HL⟩ : ∃ L, Hid (Met.bt q d gs = L) := ⟨_, Lib.hid rfl⟩
  rw [HL.out] at hlen
  obtain ⟨hlen1, hlen2⟩ := hlen
  have hB0 : Below w.heap.size w w := Below.refl _ _
  go_enter Try.func23, Try.ntmps23
  go_wp2_with fail
  refine (refBeats_right (HI.out.later ((hB0.alloc hB0.size (.cells #[.int .i64 q, .int .i64 d, .slice p gs.length cap] 24)).alloc (hB0.alloc hB0.size (.cells #[.int .i64 q, .int .i64 d, .slice p gs.length cap] 24)).size (.cells #[.int .i64 a, .int .i64 b] 26))) hr HL.out).mono ?_
  rintro e w1 ⟨⟨u1, rfl, hP1⟩, hb1⟩
  have hs1 : Below w.heap.size w w1 := Below.trans (by repeat (first | exact Below.refl _ _ | refine Below.alloc ?_ (by simp <;> omega) _)) (hb1.mono (by simp <;> omega))
  have c_m_0 : w1.cell? ⟨w.heap.size, 0, none⟩ = some (.int .i64 q) := (hb1.cell (by simp <;> omega)).trans (by go_simp)
  have c_m_1 : w1.cell? ⟨w.heap.size, 1, none⟩ = some (.int .i64 d) := (hb1.cell (by simp <;> omega)).trans (by go_simp)
  have c_m_2 : w1.cell? ⟨w.heap.size, 2, none⟩ = some (.slice p gs.length cap) := (hb1.cell (by simp <;> omega)).trans (by go_simp)
  have c_a_0 : w1.cell? ⟨w.heap.size + 1, 0, none⟩ = some (.int .i64 a) := (hb1.cell (by simp <;> omega)).trans (by go_simp)
  have c_a_1 : w1.cell? ⟨w.heap.size + 1, 1, none⟩ = some (.int .i64 b) := (hb1.cell (by simp <;> omega)).trans (by go_simp)
  have z_a := World.block_lt_of_cell? _ _ c_a_0
  have z_m := World.block_lt_of_cell? _ _ c_m_0
  have hB1 := below_two hB0 hs1
  clear hB0 hs1 hb1
  have HP1 := Lib.hid hP1
  clear hP1
  go_wp2_with fail
  refine (refWithin_is (HI.out.later hB1) hr HIA.out.1 HIA.out.2 h1).mono ?_
  rintro e w2 ⟨rfl, hb2⟩
  have hs2 := hb2
  replace HP1 := Lib.hid (HP1.out.later hs2)
  replace c_m_0 := cell_later hs2 c_m_0
  replace c_m_1 := cell_later hs2 c_m_1
  replace c_m_2 := cell_later hs2 c_m_2
  replace c_a_0 := cell_later hs2 c_a_0
  replace c_a_1 := cell_later hs2 c_a_1
  clear z_a
  have z_a := World.block_lt_of_cell? _ _ c_a_0
  clear z_m
  have z_m := World.block_lt_of_cell? _ _ c_m_0
  have hB2 := below_two hB1 hs2
  clear hB1 hs2
  go_wp2
  go_ret2
  exact ⟨rfl, hB2⟩

set_option maxRecDepth 100000 in
set_option maxHeartbeats 4000000 in
theorem refWeight_rest (q d : Int) (v : Value) (gs : List Int) (a b : Int) (w : World) (hI : Ints w v gs) (ia : Rat.I64 a) (ib : Rat.I64 b) (hr : Met.right q d gs = true) (h1 : Met.inB q d (a, b) = true) (h2 : (a == 0) = false) (d1 : 1 ≤ d) (d64 : d ≤ 64) (b1 : 1 ≤ b) (a0 : 0 ≤ a) (a1 : a ≤ 1000000000) :
    Calls Try.prog 23 #[mt q d v, rt a b] w fun ed w' => ed = .returned (.tuple #[.int .i64 (if (a, b) ∈ Met.bt q d gs then 2 else if (a * d) % b = 0 then 1 else 0), .int .i64 0]) ∧ Below w.heap.size w w' := by
  obtain ⟨p, cap, rfl, hl, hc⟩ := hI
  have HI : Hid (Ints w (.slice p gs.length cap) gs) := Lib.hid ⟨p, cap, rfl, hl, hc⟩
  clear hl hc
  have HIA := Lib.hid (And.intro ia ib)
  clear ia ib
  have hlen := (Met.isRight hr).len
  have HLB : Hid ((Met.bt q d gs).length = (Met.grp q d gs).length) := Lib.hid (by rw [Met.bt, Met.bts_length])
  rw [← HLB.out] at hlen
  obtain ⟨L, HL⟩ : ∃ L, Hid (Met.bt q d gs = L) := ⟨_, Lib.hid rfl⟩
  rw [HL.out] at hlen
  obtain ⟨hlen1, hlen2⟩ := hlen
  rw [HL.out]
  obtain ⟨R, HR⟩ : ∃ R : Int, Hid ((if (a, b) ∈ L then 2 else if (a * d) % b = 0 then 1 else 0) = R) := ⟨_, Lib.hid rfl⟩
  rw [HR.out]
  have hgR := guardR
  have heR := eql_rt
  have hb0 : (b == 0) = false := beq_eq_false_iff_ne.2 (by omega)
  have hm0 : 0 ≤ a * d := Int.mul_nonneg a0 (by omega)
  have hm1 : a * d ≤ 64000000000 := Int.le_trans (Int.mul_le_mul a1 d64 (by omega) (by omega)) (by omega)
  have htm : (a * d).tmod b = (a * d) % b := Int.tmod_eq_emod_of_nonneg hm0
  have hB0 : Below w.heap.size w w := Below.refl _ _
  go_enter Try.func23, Try.ntmps23
  go_wp2_with fail
  refine (refBeats_right (HI.out.later ((hB0.alloc hB0.size (.cells #[.int .i64 q, .int .i64 d, .slice p gs.length cap] 24)).alloc (hB0.alloc hB0.size (.cells #[.int .i64 q, .int .i64 d, .slice p gs.length cap] 24)).size (.cells #[.int .i64 a, .int .i64 b] 26))) hr HL.out).mono ?_
  rintro e w1 ⟨⟨u1, rfl, hP1⟩, hb1⟩
  have hs1 : Below w.heap.size w w1 := Below.trans (by repeat (first | exact Below.refl _ _ | refine Below.alloc ?_ (by simp <;> omega) _)) (hb1.mono (by simp <;> omega))
  have c_m_0 : w1.cell? ⟨w.heap.size, 0, none⟩ = some (.int .i64 q) := (hb1.cell (by simp <;> omega)).trans (by go_simp)
  have c_m_1 : w1.cell? ⟨w.heap.size, 1, none⟩ = some (.int .i64 d) := (hb1.cell (by simp <;> omega)).trans (by go_simp)
  have c_m_2 : w1.cell? ⟨w.heap.size, 2, none⟩ = some (.slice p gs.length cap) := (hb1.cell (by simp <;> omega)).trans (by go_simp)
  have c_a_0 : w1.cell? ⟨w.heap.size + 1, 0, none⟩ = some (.int .i64 a) := (hb1.cell (by simp <;> omega)).trans (by go_simp)
  have c_a_1 : w1.cell? ⟨w.heap.size + 1, 1, none⟩ = some (.int .i64 b) := (hb1.cell (by simp <;> omega)).trans (by go_simp)
  have z_a := World.block_lt_of_cell? _ _ c_a_0
  have z_m := World.block_lt_of_cell? _ _ c_m_0
  have hB1 := below_two hB0 hs1
  clear hB0 hs1 hb1
  have HP1 := Lib.hid hP1
  clear hP1
  go_wp2_with fail
  refine (refWithin_is (HI.out.later hB1) hr HIA.out.1 HIA.out.2 h1).mono ?_
  rintro e w2 ⟨rfl, hb2⟩
  have hs2 := hb2
  replace HP1 := Lib.hid (HP1.out.later hs2)
  replace c_m_0 := cell_later hs2 c_m_0
  replace c_m_1 := cell_later hs2 c_m_1
  replace c_m_2 := cell_later hs2 c_m_2
  replace c_a_0 := cell_later hs2 c_a_0
  replace c_a_1 := cell_later hs2 c_a_1
  clear z_a
  have z_a := World.block_lt_of_cell? _ _ c_a_0
  clear z_m
  have z_m := World.block_lt_of_cell? _ _ c_m_0
  have hB2 := below_two hB1 hs2
  clear hB1 hs2
  obtain ⟨p3, cap3, rfl, hl3, hc3⟩ := HP1.out
  have HC := Lib.hid hc3
  clear hc3 hl3
  clear HP1
  go_wp2_with fail
  go_loopw [9] (fun i wr => ∃ k : Nat, k ≤ L.length ∧ i = .int .i64 (k : Int) ∧ Hid (∀ t ∈ L.take k, t ≠ (a, b)) ∧ Below w2.heap.size w2 wr) (fun i _ => L.length - (intOf i).toNat)
  case atStart => exact ⟨0, Nat.zero_le _, rfl, Lib.hid (by simp), Below.refl _ _⟩
  case round =>
    obtain ⟨k, hk, rfl, HE, hB⟩ := hrel
    replace c_a_0 := cell_later hB c_a_0
    replace c_a_1 := cell_later hB c_a_1
    replace c_m_1 := cell_later hB c_m_1
    clear c_m_0 c_m_2 z_m z_a
    by_cases hlt : k < L.length
    · obtain ⟨t, ht⟩ : ∃ t, L[k]? = some t := ⟨_, List.getElem?_eq_getElem hlt⟩
      obtain ⟨b1, o1, e1, hcx, hcx'⟩ := HC.out k t ht
      subst e1
      obtain ⟨x0, x1⟩ := t
      dsimp only at hcx hcx'
      replace hcx := cell_later hB hcx
      replace hcx' := cell_later hB hcx'
      have HT := Lib.hid ht
      have hlt' : (k : Int) < (L.length : Int) := by omega
      clear ht
      go_wp2_with fail
      go_quiet (fail)
      go_wp2
      · have hxy : (x0, x1) = (a, b) := by
          have h2 : eqR x0 x1 a b = true := by assumption
          obtain ⟨rfl, rfl⟩ := (eqR_iff _ _ _ _).1 h2
          rfl
        obtain rfl : (2 : Int) = R := by rw [← HR.out, if_pos (by rw [← hxy]; exact List.mem_of_getElem? HT.out)]
        go_ret2
        exact ⟨rfl, below_two hB2 (below_drewN hB _)⟩
      · have hxy : (x0, x1) ≠ (a, b) := by
          have : eqR x0 x1 a b = false := by assumption
          intro e; cases e; rw [eqR_self] at this; cases this
        go_roundw
        case rel => exact ⟨k + 1, by omega, by go_num, Lib.hid (by rw [Met.take_succ_at HT.out]; intro t ht; rcases List.mem_append.1 ht with h | h; exact HE.out t h; simp at h; rw [h]; exact hxy), below_drewN hB _⟩
        case measure => simp [intOf]; omega
    · obtain rfl : k = L.length := by omega
      rw [List.take_length] at HE
      have HN : Hid ((a, b) ∉ L) := Lib.hid (fun h => HE.out _ h rfl)
      clear HE HC
      by_cases h4 : (a * d) % b = 0
      · have h5 : ((a * d) % b == 0) = true := by simp [h4]
        go_wp2
        obtain rfl : (1 : Int) = R := by rw [← HR.out, if_neg HN.out, if_pos h4]
        go_ret2
        exact ⟨rfl, below_two hB2 hB⟩
      · have h5 : ((a * d) % b == 0) = false := by simp [h4]
        go_wp2
        obtain rfl : (0 : Int) = R := by rw [← HR.out, if_neg HN.out, if_neg h4]
        go_ret2
        exact ⟨rfl, below_two hB2 hB⟩

theorem refWeight_any (q d : Int) (v : Value) (gs : List Int) (a b : Int) (w : World) (hI : Ints w v gs) (ia : Rat.I64 a) (ib : Rat.I64 b) :
    Calls Try.prog 23 #[mt q d v, rt a b] w fun ed w' => ed = .returned (.tuple #[.int .i64 (Met.wtV q d gs (a, b)), .int .i64 (Met.wtE q d gs (a, b))]) ∧ Below w.heap.size w w' := by
  unfold Met.wtV Met.wtE
  cases hr : Met.right q d gs
  · exact refWeight_no q d v gs a b w hI ia ib hr
  cases h1 : Met.inB q d (a, b)
  · exact refWeight_out q d v gs a b w hI ia ib hr h1
  have hR := Met.isRight hr
  obtain ⟨hk, hk0, _⟩ := inB_ok h1
  have b1 := hk.d1
  simp only [Bool.and_self, if_true]
  by_cases h2 : a = 0
  · rw [if_pos h2]; exact refWeight_zero q d v gs a b w hI ia ib hr h1 (by simp [h2])
  rw [if_neg h2]
  have := refWeight_rest q d v gs a b w hI ia ib hr h1 (by simp [h2]) hR.d1 hR.d64 b1 hk0 (by have := hk.nM; have := Rat.M_eq; omega)
  rw [show (if (a, b) ∈ Met.bt q d gs then (2 : Int) else if d % b = 0 then 1 else 0) = (if (a, b) ∈ Met.bt q d gs then 2 else if (a * d) % b = 0 then 1 else 0) by
    by_cases h : d % b = 0
    · rw [if_pos h, if_pos ((Met.cop hk).2 h)]
    · rw [if_neg h, if_neg (fun x => h ((Met.cop hk).1 x))]]
  exact this
theorem refWeight_is {q d : Int} {v : Value} {gs : List Int} {w : World} (hI : Ints w v gs) {a b x e : Int} (ia : Rat.I64 a) (ib : Rat.I64 b) (h1 : Met.wtV q d gs (a, b) = x) (h2 : Met.wtE q d gs (a, b) = e) :
    Calls Try.prog 23 #[mt q d v, rt a b] w fun ed w' => ed = .returned (.tuple #[.int .i64 x, .int .i64 e]) ∧ Below w.heap.size w w' := by have := refWeight_any q d v gs a b w hI ia ib; rw [h1, h2] at this; exact this
end Go.Proofs.Ytlodhfdikglgoaa
