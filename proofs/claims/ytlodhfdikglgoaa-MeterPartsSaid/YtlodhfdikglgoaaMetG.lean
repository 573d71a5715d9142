/-
  The contracts of meter.inBar, Weight and Cut.
-/
import Derived.Test.YtlodhfdikglgoaaMetF
namespace Go.Proofs.Ytlodhfdikglgoaa
open Go.RowKit

theorem rightP (p : Met.Pr) (w : World) :
    Calls Try.prog 42 #[rp p] w fun ed w' => ed = .returned (.bool (Met.ok p)) ∧ Below w.heap.size w w' := ratio_right p.1 p.2 w
theorem right_isP {a b : Int} {t : Bool} (h : Met.ok (a, b) = t) (w : World) :
    Calls Try.prog 42 #[rt a b] w fun ed w' => ed = .returned (.bool t) ∧ Below w.heap.size w w' := by have := rightP (a, b) w; rw [h] at this; exact this
theorem addP (p q : Met.Pr) (w : World) :
    Calls Try.prog 31 #[rp p, rp q] w fun ed w' => ed = .returned (rvp (Met.ad p q) (Met.adE p q)) ∧ Below w.heap.size w w' := add_any p.1 p.2 q.1 q.2 w
theorem mlength_right {q d : Int} {v : Value} {gs : List Int} {w : World} (hI : Ints w v gs) (hr : Met.right q d gs = true) {x y : Int} (h : Met.of q d = (x, y)) :
    Calls Try.prog 12 #[mt q d v] w fun ed w' => ed = .returned (rvp (x, y) 0) ∧ Below w.heap.size w w' := by have := mlength_1 q d v gs w hI hr; rw [h] at this; exact this

set_option maxRecDepth 100000 in
set_option maxHeartbeats 4000000 in
theorem inBar_0 (q d : Int) (v : Value) (gs : List Int) (a b : Int) (w : World) (hI : Ints w v gs) (hr : Met.right q d gs = true) (h1 : Met.ok (a, b) = false) :
    Calls Try.prog 39 #[mt q d v, rt a b] w fun ed w' => ed = .returned (.bool false) ∧ Below w.heap.size w w' := by
  obtain ⟨p, cap, rfl, hl, hc⟩ := hI
  have HI : Hid (Ints w (.slice p gs.length cap) gs) := Lib.hid ⟨p, cap, rfl, hl, hc⟩
  clear hl hc
  obtain ⟨X, HX⟩ : ∃ X, Hid (Met.of q d = X) := ⟨_, Lib.hid rfl⟩
  obtain ⟨x, y⟩ := X
  have hB0 : Below w.heap.size w w := Below.refl _ _
  go_enter Try.func39, Try.ntmps39
  go_wp2_with fail
  refine (mlength_right (HI.out.later ((hB0.alloc hB0.size (.cells #[.int .i64 q, .int .i64 d, .slice p gs.length cap] 24)).alloc (hB0.alloc hB0.size (.cells #[.int .i64 q, .int .i64 d, .slice p gs.length cap] 24)).size (.cells #[.int .i64 a, .int .i64 b] 26))) hr HX.out).mono ?_
  rintro e w1 ⟨rfl, hb1⟩
  have hs1 : Below w.heap.size w w1 := Below.trans (by repeat (first | exact Below.refl _ _ | refine Below.alloc ?_ (by simp <;> omega) _)) (hb1.mono (by simp <;> omega))
  have c_m_0 : w1.cell? ⟨w.heap.size, 0, none⟩ = some (.int .i64 q) := (hb1.cell (by simp <;> omega)).trans (by go_simp)
  have c_m_1 : w1.cell? ⟨w.heap.size, 1, none⟩ = some (.int .i64 d) := (hb1.cell (by simp <;> omega)).trans (by go_simp)
  have c_m_2 : w1.cell? ⟨w.heap.size, 2, none⟩ = some (.slice p gs.length cap) := (hb1.cell (by simp <;> omega)).trans (by go_simp)
  have c_a_0 : w1.cell? ⟨w.heap.size + 1, 0, none⟩ = some (.int .i64 a) := (hb1.cell (by simp <;> omega)).trans (by go_simp)
  have c_a_1 : w1.cell? ⟨w.heap.size + 1, 1, none⟩ = some (.int .i64 b) := (hb1.cell (by simp <;> omega)).trans (by go_simp)
  have z_a := World.block_lt_of_cell? _ _ c_a_0
  have z_m := World.block_lt_of_cell? _ _ c_m_0
  have hB1 := below_two hB0 hs1
  clear hB0 hs1 hb1
  go_wp2_with fail
  refine (right_isP h1 _).mono ?_
  rintro e w2 ⟨rfl, hb2⟩
  have hs2 : Below w1.heap.size w1 w2 := Below.trans (by repeat (first | exact Below.refl _ _ | refine Below.alloc ?_ (by simp <;> omega) _)) (hb2.mono (by simp <;> omega))
  replace c_m_0 := cell_later hs2 c_m_0
  replace c_m_1 := cell_later hs2 c_m_1
  replace c_m_2 := cell_later hs2 c_m_2
  replace c_a_0 := cell_later hs2 c_a_0
  replace c_a_1 := cell_later hs2 c_a_1
  have c_l_0 : w2.cell? ⟨w1.heap.size, 0, none⟩ = some (.int .i64 x) := (hb2.cell (by simp <;> omega)).trans (by go_simp)
  have c_l_1 : w2.cell? ⟨w1.heap.size, 1, none⟩ = some (.int .i64 y) := (hb2.cell (by simp <;> omega)).trans (by go_simp)
  clear z_a
  have z_a := World.block_lt_of_cell? _ _ c_a_0
  have z_l := World.block_lt_of_cell? _ _ c_l_0
  clear z_m
  have z_m := World.block_lt_of_cell? _ _ c_m_0
  have hB2 := below_two hB1 hs2
  clear hB1 hs2 hb2
  go_wp2
  go_ret
  exact ⟨rfl, hB2⟩

set_option maxRecDepth 100000 in
set_option maxHeartbeats 4000000 in
theorem inBar_1 (q d : Int) (v : Value) (gs : List Int) (a b : Int) (w : World) (hI : Ints w v gs) (hr : Met.right q d gs = true) (h1 : Met.ok (a, b) = true) (h2 : ¬ 0 ≤ a) :
    Calls Try.prog 39 #[mt q d v, rt a b] w fun ed w' => ed = .returned (.bool false) ∧ Below w.heap.size w w' := by
  obtain ⟨p, cap, rfl, hl, hc⟩ := hI
  have HI : Hid (Ints w (.slice p gs.length cap) gs) := Lib.hid ⟨p, cap, rfl, hl, hc⟩
  clear hl hc
  obtain ⟨X, HX⟩ : ∃ X, Hid (Met.of q d = X) := ⟨_, Lib.hid rfl⟩
  obtain ⟨x, y⟩ := X
  have hB0 : Below w.heap.size w w := Below.refl _ _
  go_enter Try.func39, Try.ntmps39
  go_wp2_with fail
  refine (mlength_right (HI.out.later ((hB0.alloc hB0.size (.cells #[.int .i64 q, .int .i64 d, .slice p gs.length cap] 24)).alloc (hB0.alloc hB0.size (.cells #[.int .i64 q, .int .i64 d, .slice p gs.length cap] 24)).size (.cells #[.int .i64 a, .int .i64 b] 26))) hr HX.out).mono ?_
  rintro e w1 ⟨rfl, hb1⟩
  have hs1 : Below w.heap.size w w1 := Below.trans (by repeat (first | exact Below.refl _ _ | refine Below.alloc ?_ (by simp <;> omega) _)) (hb1.mono (by simp <;> omega))
  have c_m_0 : w1.cell? ⟨w.heap.size, 0, none⟩ = some (.int .i64 q) := (hb1.cell (by simp <;> omega)).trans (by go_simp)
  have c_m_1 : w1.cell? ⟨w.heap.size, 1, none⟩ = some (.int .i64 d) := (hb1.cell (by simp <;> omega)).trans (by go_simp)
  have c_m_2 : w1.cell? ⟨w.heap.size, 2, none⟩ = some (.slice p gs.length cap) := (hb1.cell (by simp <;> omega)).trans (by go_simp)
  have c_a_0 : w1.cell? ⟨w.heap.size + 1, 0, none⟩ = some (.int .i64 a) := (hb1.cell (by simp <;> omega)).trans (by go_simp)
  have c_a_1 : w1.cell? ⟨w.heap.size + 1, 1, none⟩ = some (.int .i64 b) := (hb1.cell (by simp <;> omega)).trans (by go_simp)
  have z_a := World.block_lt_of_cell? _ _ c_a_0
  have z_m := World.block_lt_of_cell? _ _ c_m_0
  have hB1 := below_two hB0 hs1
  clear hB0 hs1 hb1
  go_wp2_with fail
  refine (right_isP h1 _).mono ?_
  rintro e w2 ⟨rfl, hb2⟩
  have hs2 : Below w1.heap.size w1 w2 := Below.trans (by repeat (first | exact Below.refl _ _ | refine Below.alloc ?_ (by simp <;> omega) _)) (hb2.mono (by simp <;> omega))
  replace c_m_0 := cell_later hs2 c_m_0
  replace c_m_1 := cell_later hs2 c_m_1
  replace c_m_2 := cell_later hs2 c_m_2
  replace c_a_0 := cell_later hs2 c_a_0
  replace c_a_1 := cell_later hs2 c_a_1
  have c_l_0 : w2.cell? ⟨w1.heap.size, 0, none⟩ = some (.int .i64 x) := (hb2.cell (by simp <;> omega)).trans (by go_simp)
  have c_l_1 : w2.cell? ⟨w1.heap.size, 1, none⟩ = some (.int .i64 y) := (hb2.cell (by simp <;> omega)).trans (by go_simp)
  clear z_a
  have z_a := World.block_lt_of_cell? _ _ c_a_0
  have z_l := World.block_lt_of_cell? _ _ c_l_0
  clear z_m
  have z_m := World.block_lt_of_cell? _ _ c_m_0
  have hB2 := below_two hB1 hs2
  clear hB1 hs2 hb2
  go_wp2
  go_ret
  exact ⟨rfl, hB2⟩

set_option maxRecDepth 100000 in
set_option maxHeartbeats 4000000 in
theorem inBar_2 (q d : Int) (v : Value) (gs : List Int) (a b : Int) (w : World) (hI : Ints w v gs) (hr : Met.right q d gs = true) (h1 : Met.ok (a, b) = true) (h2 : 0 ≤ a) :
    Calls Try.prog 39 #[mt q d v, rt a b] w fun ed w' => ed = .returned (.bool (decide (Met.cm (a, b) (Met.of q d) < 0))) ∧ Below w.heap.size w w' := by
  obtain ⟨p, cap, rfl, hl, hc⟩ := hI
  have HI : Hid (Ints w (.slice p gs.length cap) gs) := Lib.hid ⟨p, cap, rfl, hl, hc⟩
  clear hl hc
  obtain ⟨X, HX⟩ : ∃ X, Hid (Met.of q d = X) := ⟨_, Lib.hid rfl⟩
  obtain ⟨x, y⟩ := X
  have hB0 : Below w.heap.size w w := Below.refl _ _
  go_enter Try.func39, Try.ntmps39
  go_wp2_with fail
  refine (mlength_right (HI.out.later ((hB0.alloc hB0.size (.cells #[.int .i64 q, .int .i64 d, .slice p gs.length cap] 24)).alloc (hB0.alloc hB0.size (.cells #[.int .i64 q, .int .i64 d, .slice p gs.length cap] 24)).size (.cells #[.int .i64 a, .int .i64 b] 26))) hr HX.out).mono ?_
  rintro e w1 ⟨rfl, hb1⟩
  have hs1 : Below w.heap.size w w1 := Below.trans (by repeat (first | exact Below.refl _ _ | refine Below.alloc ?_ (by simp <;> omega) _)) (hb1.mono (by simp <;> omega))
  have c_m_0 : w1.cell? ⟨w.heap.size, 0, none⟩ = some (.int .i64 q) := (hb1.cell (by simp <;> omega)).trans (by go_simp)
  have c_m_1 : w1.cell? ⟨w.heap.size, 1, none⟩ = some (.int .i64 d) := (hb1.cell (by simp <;> omega)).trans (by go_simp)
  have c_m_2 : w1.cell? ⟨w.heap.size, 2, none⟩ = some (.slice p gs.length cap) := (hb1.cell (by simp <;> omega)).trans (by go_simp)
  have c_a_0 : w1.cell? ⟨w.heap.size + 1, 0, none⟩ = some (.int .i64 a) := (hb1.cell (by simp <;> omega)).trans (by go_simp)
  have c_a_1 : w1.cell? ⟨w.heap.size + 1, 1, none⟩ = some (.int .i64 b) := (hb1.cell (by simp <;> omega)).trans (by go_simp)
  have z_a := World.block_lt_of_cell? _ _ c_a_0
  have z_m := World.block_lt_of_cell? _ _ c_m_0
  have hB1 := below_two hB0 hs1
  clear hB0 hs1 hb1
  go_wp2_with fail
  refine (right_isP h1 _).mono ?_
  rintro e w2 ⟨rfl, hb2⟩
  have hs2 : Below w1.heap.size w1 w2 := Below.trans (by repeat (first | exact Below.refl _ _ | refine Below.alloc ?_ (by simp <;> omega) _)) (hb2.mono (by simp <;> omega))
  replace c_m_0 := cell_later hs2 c_m_0
  replace c_m_1 := cell_later hs2 c_m_1
  replace c_m_2 := cell_later hs2 c_m_2
  replace c_a_0 := cell_later hs2 c_a_0
  replace c_a_1 := cell_later hs2 c_a_1
  have c_l_0 : w2.cell? ⟨w1.heap.size, 0, none⟩ = some (.int .i64 x) := (hb2.cell (by simp <;> omega)).trans (by go_simp)
  have c_l_1 : w2.cell? ⟨w1.heap.size, 1, none⟩ = some (.int .i64 y) := (hb2.cell (by simp <;> omega)).trans (by go_simp)
  clear z_a
  have z_a := World.block_lt_of_cell? _ _ c_a_0
  have z_l := World.block_lt_of_cell? _ _ c_l_0
  clear z_m
  have z_m := World.block_lt_of_cell? _ _ c_m_0
  have hB2 := below_two hB1 hs2
  clear hB1 hs2 hb2
  go_wp2_with fail
  refine (compareP (a, b) (x, y) _).mono ?_
  rintro e w3 ⟨rfl, hb3⟩
  have hs3 := hb3
  replace c_m_0 := cell_later hs3 c_m_0
  replace c_m_1 := cell_later hs3 c_m_1
  replace c_m_2 := cell_later hs3 c_m_2
  replace c_a_0 := cell_later hs3 c_a_0
  replace c_a_1 := cell_later hs3 c_a_1
  replace c_l_0 := cell_later hs3 c_l_0
  replace c_l_1 := cell_later hs3 c_l_1
  clear z_a
  have z_a := World.block_lt_of_cell? _ _ c_a_0
  clear z_l
  have z_l := World.block_lt_of_cell? _ _ c_l_0
  clear z_m
  have z_m := World.block_lt_of_cell? _ _ c_m_0
  have hB3 := below_two hB2 hs3
  clear hB2 hs3
  obtain ⟨m, HM⟩ : ∃ m, Hid (Met.cm (a, b) (x, y) = m) := ⟨_, Lib.hid rfl⟩
  rw [HM.out]
  go_wp2
  go_ret
  exact ⟨ret_bool (by rw [HX.out, HM.out]), hB3⟩

theorem inBar_any (q d : Int) (v : Value) (gs : List Int) (a b : Int) (w : World) (hI : Ints w v gs) (hr : Met.right q d gs = true) :
    Calls Try.prog 39 #[mt q d v, rt a b] w fun ed w' => ed = .returned (.bool (Met.inB q d (a, b))) ∧ Below w.heap.size w w' := by
  unfold Met.inB
  cases h1 : Met.ok (a, b)
  · exact inBar_0 q d v gs a b w hI hr h1
  · by_cases h2 : 0 ≤ a
    · have := inBar_2 q d v gs a b w hI hr h1 h2
      rw [decide_eq_true h2]
      exact this
    · have := inBar_1 q d v gs a b w hI hr h1 h2
      rw [decide_eq_false h2]
      exact this
theorem inBar_is {q d : Int} {v : Value} {gs : List Int} {a b : Int} {w : World} (hI : Ints w v gs) (hr : Met.right q d gs = true) {t : Bool} (h : Met.inB q d (a, b) = t) :
    Calls Try.prog 39 #[mt q d v, rt a b] w fun ed w' => ed = .returned (.bool t) ∧ Below w.heap.size w w' := by have := inBar_any q d v gs a b w hI hr; rw [h] at this; exact this
theorem onBeat_is {q d : Int} {v : Value} {gs : List Int} {a b : Int} {w : World} (hI : Ints w v gs) (hr : Met.right q d gs = true) {t : Bool} (h : decide ((a, b) ∈ Met.bt q d gs) = t) :
    Calls Try.prog 40 #[mt q d v, rt a b] w fun ed w' => ed = .returned (.bool t) ∧ Below w.heap.size w w' := by have := onBeat_any q d v gs a b w hI hr; rw [h] at this; exact this
theorem inB_ok {q d : Int} {p : Met.Pr} (h : Met.inB q d p = true) : Rat.IsRight p.1 p.2 ∧ 0 ≤ p.1 ∧ Met.cm p (Met.of q d) < 0 := by
  unfold Met.inB Met.ok at h
  simp only [Bool.and_eq_true, decide_eq_true_eq] at h
  exact ⟨(Rat.right_iff _ _).1 h.1.1, h.1.2, h.2⟩

set_option maxRecDepth 100000 in
set_option maxHeartbeats 4000000 in
theorem weight_no (q d : Int) (v : Value) (gs : List Int) (a b : Int) (w : World) (hI : Ints w v gs) (hr : Met.right q d gs = false) :
    Calls Try.prog 22 #[mt q d v, rt a b] w fun ed w' => ed = .returned (.tuple #[.int .i64 0, .int .i64 50]) ∧ Below w.heap.size w w' := by
  obtain ⟨p, cap, rfl, hl, hc⟩ := hI
  have HI : Hid (Ints w (.slice p gs.length cap) gs) := Lib.hid ⟨p, cap, rfl, hl, hc⟩
  clear hl hc
  have hB0 : Below w.heap.size w w := Below.refl _ _
  go_enter Try.func22, Try.ntmps22
  go_wp2_with fail
  refine (mright_is (HI.out.later ((hB0.alloc hB0.size (.cells #[.int .i64 q, .int .i64 d, .slice p gs.length cap] 24)).alloc (hB0.alloc hB0.size (.cells #[.int .i64 q, .int .i64 d, .slice p gs.length cap] 24)).size (.cells #[.int .i64 a, .int .i64 b] 26))) hr).mono ?_
  rintro e w1 ⟨rfl, hb1⟩
  have hs1 : Below w.heap.size w w1 := Below.trans (by repeat (first | exact Below.refl _ _ | refine Below.alloc ?_ (by simp <;> omega) _)) (hb1.mono (by simp <;> omega))
  have c_m_0 : w1.cell? ⟨w.heap.size, 0, none⟩ = some (.int .i64 q) := (hb1.cell (by simp <;> omega)).trans (by go_simp)
  have c_m_1 : w1.cell? ⟨w.heap.size, 1, none⟩ = some (.int .i64 d) := (hb1.cell (by simp <;> omega)).trans (by go_simp)
  have c_m_2 : w1.cell? ⟨w.heap.size, 2, none⟩ = some (.slice p gs.length cap) := (hb1.cell (by simp <;> omega)).trans (by go_simp)
  have c_a_0 : w1.cell? ⟨w.heap.size + 1, 0, none⟩ = some (.int .i64 a) := (hb1.cell (by simp <;> omega)).trans (by go_simp)
  have c_a_1 : w1.cell? ⟨w.heap.size + 1, 1, none⟩ = some (.int .i64 b) := (hb1.cell (by simp <;> omega)).trans (by go_simp)
  have z_a := World.block_lt_of_cell? _ _ c_a_0
  have z_m := World.block_lt_of_cell? _ _ c_m_0
  have hB1 := below_two hB0 hs1
  clear hB0 hs1 hb1
  go_wp2
  go_ret2
  exact ⟨rfl, hB1⟩

set_option maxRecDepth 100000 in
set_option maxHeartbeats 4000000 in
theorem weight_out (q d : Int) (v : Value) (gs : List Int) (a b : Int) (w : World) (hI : Ints w v gs) (hr : Met.right q d gs = true) (h1 : Met.inB q d (a, b) = false) :
    Calls Try.prog 22 #[mt q d v, rt a b] w fun ed w' => ed = .returned (.tuple #[.int .i64 0, .int .i64 2]) ∧ Below w.heap.size w w' := by
  obtain ⟨p, cap, rfl, hl, hc⟩ := hI
  have HI : Hid (Ints w (.slice p gs.length cap) gs) := Lib.hid ⟨p, cap, rfl, hl, hc⟩
  clear hl hc
  have hB0 : Below w.heap.size w w := Below.refl _ _
  go_enter Try.func22, Try.ntmps22
  go_wp2_with fail
  refine (mright_is (HI.out.later ((hB0.alloc hB0.size (.cells #[.int .i64 q, .int .i64 d, .slice p gs.length cap] 24)).alloc (hB0.alloc hB0.size (.cells #[.int .i64 q, .int .i64 d, .slice p gs.length cap] 24)).size (.cells #[.int .i64 a, .int .i64 b] 26))) hr).mono ?_
  rintro e w1 ⟨rfl, hb1⟩
  have hs1 : Below w.heap.size w w1 := Below.trans (by repeat (first | exact Below.refl _ _ | refine Below.alloc ?_ (by simp <;> omega) _)) (hb1.mono (by simp <;> omega))
  have c_m_0 : w1.cell? ⟨w.heap.size, 0, none⟩ = some (.int .i64 q) := (hb1.cell (by simp <;> omega)).trans (by go_simp)
  have c_m_1 : w1.cell? ⟨w.heap.size, 1, none⟩ = some (.int .i64 d) := (hb1.cell (by simp <;> omega)).trans (by go_simp)
  have c_m_2 : w1.cell? ⟨w.heap.size, 2, none⟩ = some (.slice p gs.length cap) := (hb1.cell (by simp <;> omega)).trans (by go_simp)
  have c_a_0 : w1.cell? ⟨w.heap.size + 1, 0, none⟩ = some (.int .i64 a) := (hb1.cell (by simp <;> omega)).trans (by go_simp)
  have c_a_1 : w1.cell? ⟨w.heap.size + 1, 1, none⟩ = some (.int .i64 b) := (hb1.cell (by simp <;> omega)).trans (by go_simp)
  have z_a := World.block_lt_of_cell? _ _ c_a_0
  have z_m := World.block_lt_of_cell? _ _ c_m_0
  have hB1 := below_two hB0 hs1
  clear hB0 hs1 hb1
  go_wp2_with fail
  refine (inBar_is (HI.out.later hB1) hr h1).mono ?_
  rintro e w2 ⟨rfl, hb2⟩
  have hs2 := hb2
  replace c_m_0 := cell_later hs2 c_m_0
  replace c_m_1 := cell_later hs2 c_m_1
  replace c_m_2 := cell_later hs2 c_m_2
  replace c_a_0 := cell_later hs2 c_a_0
  replace c_a_1 := cell_later hs2 c_a_1
  clear z_a
  have z_a := World.block_lt_of_cell? _ _ c_a_0
  clear z_m
  have z_m := World.block_lt_of_cell? _ _ c_m_0
  have hB2 := below_two hB1 hs2
  clear hB1 hs2
  go_wp2
  go_ret2
  exact ⟨rfl, hB2⟩

set_option maxRecDepth 100000 in
set_option maxHeartbeats 4000000 in
theorem weight_zero (q d : Int) (v : Value) (gs : List Int) (a b : Int) (w : World) (hI : Ints w v gs) (hr : Met.right q d gs = true) (h1 : Met.inB q d (a, b) = true) (h2 : (a == 0) = true) :
    Calls Try.prog 22 #[mt q d v, rt a b] w fun ed w' => ed = .returned (.tuple #[.int .i64 3, .int .i64 0]) ∧ Below w.heap.size w w' := by
  obtain ⟨p, cap, rfl, hl, hc⟩ := hI
  have HI : Hid (Ints w (.slice p gs.length cap) gs) := Lib.hid ⟨p, cap, rfl, hl, hc⟩
  clear hl hc
  have hB0 : Below w.heap.size w w := Below.refl _ _
  go_enter Try.func22, Try.ntmps22
  go_wp2_with fail
  refine (mright_is (HI.out.later ((hB0.alloc hB0.size (.cells #[.int .i64 q, .int .i64 d, .slice p gs.length cap] 24)).alloc (hB0.alloc hB0.size (.cells #[.int .i64 q, .int .i64 d, .slice p gs.length cap] 24)).size (.cells #[.int .i64 a, .int .i64 b] 26))) hr).mono ?_
  rintro e w1 ⟨rfl, hb1⟩
  have hs1 : Below w.heap.size w w1 := Below.trans (by repeat (first | exact Below.refl _ _ | refine Below.alloc ?_ (by simp <;> omega) _)) (hb1.mono (by simp <;> omega))
  have c_m_0 : w1.cell? ⟨w.heap.size, 0, none⟩ = some (.int .i64 q) := (hb1.cell (by simp <;> omega)).trans (by go_simp)
  have c_m_1 : w1.cell? ⟨w.heap.size, 1, none⟩ = some (.int .i64 d) := (hb1.cell (by simp <;> omega)).trans (by go_simp)
  have c_m_2 : w1.cell? ⟨w.heap.size, 2, none⟩ = some (.slice p gs.length cap) := (hb1.cell (by simp <;> omega)).trans (by go_simp)
  have c_a_0 : w1.cell? ⟨w.heap.size + 1, 0, none⟩ = some (.int .i64 a) := (hb1.cell (by simp <;> omega)).trans (by go_simp)
  have c_a_1 : w1.cell? ⟨w.heap.size + 1, 1, none⟩ = some (.int .i64 b) := (hb1.cell (by simp <;> omega)).trans (by go_simp)
  have z_a := World.block_lt_of_cell? _ _ c_a_0
  have z_m := World.block_lt_of_cell? _ _ c_m_0
  have hB1 := below_two hB0 hs1
  clear hB0 hs1 hb1
  go_wp2_with fail
  refine (inBar_is (HI.out.later hB1) hr h1).mono ?_
  rintro e w2 ⟨rfl, hb2⟩
  have hs2 := hb2
  replace c_m_0 := cell_later hs2 c_m_0
  replace c_m_1 := cell_later hs2 c_m_1
  replace c_m_2 := cell_later hs2 c_m_2
  replace c_a_0 := cell_later hs2 c_a_0
  replace c_a_1 := cell_later hs2 c_a_1
  clear z_a
  have z_a := World.block_lt_of_cell? _ _ c_a_0
  clear z_m
  have z_m := World.block_lt_of_cell? _ _ c_m_0
  have hB2 := below_two hB1 hs2
  clear hB1 hs2
  go_wp2
  go_ret2
  exact ⟨rfl, hB2⟩

set_option maxRecDepth 100000 in
set_option maxHeartbeats 4000000 in
theorem weight_on (q d : Int) (v : Value) (gs : List Int) (a b : Int) (w : World) (hI : Ints w v gs) (hr : Met.right q d gs = true) (h1 : Met.inB q d (a, b) = true) (h2 : (a == 0) = false) (h3 : decide ((a, b) ∈ Met.bt q d gs) = true) :
    Calls Try.prog 22 #[mt q d v, rt a b] w fun ed w' => ed = .returned (.tuple #[.int .i64 2, .int .i64 0]) ∧ Below w.heap.size w w' := by
  obtain ⟨p, cap, rfl, hl, hc⟩ := hI
  have HI : Hid (Ints w (.slice p gs.length cap) gs) := Lib.hid ⟨p, cap, rfl, hl, hc⟩
  clear hl hc
  have hB0 : Below w.heap.size w w := Below.refl _ _
  go_enter Try.func22, Try.ntmps22
  go_wp2_with fail
  refine (mright_is (HI.out.later ((hB0.alloc hB0.size (.cells #[.int .i64 q, .int .i64 d, .slice p gs.length cap] 24)).alloc (hB0.alloc hB0.size (.cells #[.int .i64 q, .int .i64 d, .slice p gs.length cap] 24)).size (.cells #[.int .i64 a, .int .i64 b] 26))) hr).mono ?_
  rintro e w1 ⟨rfl, hb1⟩
  have hs1 : Below w.heap.size w w1 := Below.trans (by repeat (first | exact Below.refl _ _ | refine Below.alloc ?_ (by simp <;> omega) _)) (hb1.mono (by simp <;> omega))
  have c_m_0 : w1.cell? ⟨w.heap.size, 0, none⟩ = some (.int .i64 q) := (hb1.cell (by simp <;> omega)).trans (by go_simp)
  have c_m_1 : w1.cell? ⟨w.heap.size, 1, none⟩ = some (.int .i64 d) := (hb1.cell (by simp <;> omega)).trans (by go_simp)
  have c_m_2 : w1.cell? ⟨w.heap.size, 2, none⟩ = some (.slice p gs.length cap) := (hb1.cell (by simp <;> omega)).trans (by go_simp)
  have c_a_0 : w1.cell? ⟨w.heap.size + 1, 0, none⟩ = some (.int .i64 a) := (hb1.cell (by simp <;> omega)).trans (by go_simp)
  have c_a_1 : w1.cell? ⟨w.heap.size + 1, 1, none⟩ = some (.int .i64 b) := (hb1.cell (by simp <;> omega)).trans (by go_simp)
  have z_a := World.block_lt_of_cell? _ _ c_a_0
  have z_m := World.block_lt_of_cell? _ _ c_m_0
  have hB1 := below_two hB0 hs1
  clear hB0 hs1 hb1
  go_wp2_with fail
  refine (inBar_is (HI.out.later hB1) hr h1).mono ?_
  rintro e w2 ⟨rfl, hb2⟩
  have hs2 := hb2
  replace c_m_0 := cell_later hs2 c_m_0
  replace c_m_1 := cell_later hs2 c_m_1
  replace c_m_2 := cell_later hs2 c_m_2
  replace c_a_0 := cell_later hs2 c_a_0
  replace c_a_1 := cell_later hs2 c_a_1
  clear z_a
  have z_a := World.block_lt_of_cell? _ _ c_a_0
  clear z_m
  have z_m := World.block_lt_of_cell? _ _ c_m_0
  have hB2 := below_two hB1 hs2
  clear hB1 hs2
  go_wp2_with fail
  refine (onBeat_is (HI.out.later hB2) hr h3).mono ?_
  rintro e w3 ⟨rfl, hb3⟩
  have hs3 := hb3
  replace c_m_0 := cell_later hs3 c_m_0
  replace c_m_1 := cell_later hs3 c_m_1
  replace c_m_2 := cell_later hs3 c_m_2
  replace c_a_0 := cell_later hs3 c_a_0
  replace c_a_1 := cell_later hs3 c_a_1
  clear z_a
  have z_a := World.block_lt_of_cell? _ _ c_a_0
  clear z_m
  have z_m := World.block_lt_of_cell? _ _ c_m_0
  have hB3 := below_two hB2 hs3
  clear hB2 hs3
  go_wp2
  go_ret2
  exact ⟨rfl, hB3⟩

set_option maxRecDepth 100000 in
set_option maxHeartbeats 4000000 in
theorem weight_part (q d : Int) (v : Value) (gs : List Int) (a b : Int) (w : World) (hI : Ints w v gs) (hr : Met.right q d gs = true) (h1 : Met.inB q d (a, b) = true) (h2 : (a == 0) = false) (h3 : decide ((a, b) ∈ Met.bt q d gs) = false) (d1 : 1 ≤ d) (d64 : d ≤ 64) (b1 : 1 ≤ b) (h4 : (d % b == 0) = true) :
    Calls Try.prog 22 #[mt q d v, rt a b] w fun ed w' => ed = .returned (.tuple #[.int .i64 1, .int .i64 0]) ∧ Below w.heap.size w w' := by
  obtain ⟨p, cap, rfl, hl, hc⟩ := hI
  have HI : Hid (Ints w (.slice p gs.length cap) gs) := Lib.hid ⟨p, cap, rfl, hl, hc⟩
  clear hl hc
  have hb0 : (b == 0) = false := beq_eq_false_iff_ne.2 (by omega)
  have htm : d.tmod b = d % b := Int.tmod_eq_emod_of_nonneg (by omega)
  have hB0 : Below w.heap.size w w := Below.refl _ _
  go_enter Try.func22, Try.ntmps22
  go_wp2_with fail
  refine (mright_is (HI.out.later ((hB0.alloc hB0.size (.cells #[.int .i64 q, .int .i64 d, .slice p gs.length cap] 24)).alloc (hB0.alloc hB0.size (.cells #[.int .i64 q, .int .i64 d, .slice p gs.length cap] 24)).size (.cells #[.int .i64 a, .int .i64 b] 26))) hr).mono ?_
  rintro e w1 ⟨rfl, hb1⟩
  have hs1 : Below w.heap.size w w1 := Below.trans (by repeat (first | exact Below.refl _ _ | refine Below.alloc ?_ (by simp <;> omega) _)) (hb1.mono (by simp <;> omega))
  have c_m_0 : w1.cell? ⟨w.heap.size, 0, none⟩ = some (.int .i64 q) := (hb1.cell (by simp <;> omega)).trans (by go_simp)
  have c_m_1 : w1.cell? ⟨w.heap.size, 1, none⟩ = some (.int .i64 d) := (hb1.cell (by simp <;> omega)).trans (by go_simp)
  have c_m_2 : w1.cell? ⟨w.heap.size, 2, none⟩ = some (.slice p gs.length cap) := (hb1.cell (by simp <;> omega)).trans (by go_simp)
  have c_a_0 : w1.cell? ⟨w.heap.size + 1, 0, none⟩ = some (.int .i64 a) := (hb1.cell (by simp <;> omega)).trans (by go_simp)
  have c_a_1 : w1.cell? ⟨w.heap.size + 1, 1, none⟩ = some (.int .i64 b) := (hb1.cell (by simp <;> omega)).trans (by go_simp)
  have z_a := World.block_lt_of_cell? _ _ c_a_0
  have z_m := World.block_lt_of_cell? _ _ c_m_0
  have hB1 := below_two hB0 hs1
  clear hB0 hs1 hb1
  go_wp2_with fail
  refine (inBar_is (HI.out.later hB1) hr h1).mono ?_
  rintro e w2 ⟨rfl, hb2⟩
  have hs2 := hb2
  replace c_m_0 := cell_later hs2 c_m_0
  replace c_m_1 := cell_later hs2 c_m_1
  replace c_m_2 := cell_later hs2 c_m_2
  replace c_a_0 := cell_later hs2 c_a_0
  replace c_a_1 := cell_later hs2 c_a_1
  clear z_a
  have z_a := World.block_lt_of_cell? _ _ c_a_0
  clear z_m
  have z_m := World.block_lt_of_cell? _ _ c_m_0
  have hB2 := below_two hB1 hs2
  clear hB1 hs2
  go_wp2_with fail
  refine (onBeat_is (HI.out.later hB2) hr h3).mono ?_
  rintro e w3 ⟨rfl, hb3⟩
  have hs3 := hb3
  replace c_m_0 := cell_later hs3 c_m_0
  replace c_m_1 := cell_later hs3 c_m_1
  replace c_m_2 := cell_later hs3 c_m_2
  replace c_a_0 := cell_later hs3 c_a_0
  replace c_a_1 := cell_later hs3 c_a_1
  clear z_a
  have z_a := World.block_lt_of_cell? _ _ c_a_0
  clear z_m
  have z_m := World.block_lt_of_cell? _ _ c_m_0
  have hB3 := below_two hB2 hs3
  clear hB2 hs3
  go_wp2
  go_ret2
  exact ⟨rfl, hB3⟩

set_option maxRecDepth 100000 in
set_option maxHeartbeats 4000000 in
theorem weight_off (q d : Int) (v : Value) (gs : List Int) (a b : Int) (w : World) (hI : Ints w v gs) (hr : Met.right q d gs = true) (h1 : Met.inB q d (a, b) = true) (h2 : (a == 0) = false) (h3 : decide ((a, b) ∈ Met.bt q d gs) = false) (d1 : 1 ≤ d) (d64 : d ≤ 64) (b1 : 1 ≤ b) (h4 : (d % b == 0) = false) :
    Calls Try.prog 22 #[mt q d v, rt a b] w fun ed w' => ed = .returned (.tuple #[.int .i64 0, .int .i64 0]) ∧ Below w.heap.size w w' := by
  obtain ⟨p, cap, rfl, hl, hc⟩ := hI
  have HI : Hid (Ints w (.slice p gs.length cap) gs) := Lib.hid ⟨p, cap, rfl, hl, hc⟩
  clear hl hc
  have hb0 : (b == 0) = false := beq_eq_false_iff_ne.2 (by omega)
  have htm : d.tmod b = d % b := Int.tmod_eq_emod_of_nonneg (by omega)
  have hB0 : Below w.heap.size w w := Below.refl _ _
  go_enter Try.func22, Try.ntmps22
  go_wp2_with fail
  refine (mright_is (HI.out.later ((hB0.alloc hB0.size (.cells #[.int .i64 q, .int .i64 d, .slice p gs.length cap] 24)).alloc (hB0.alloc hB0.size (.cells #[.int .i64 q, .int .i64 d, .slice p gs.length cap] 24)).size (.cells #[.int .i64 a, .int .i64 b] 26))) hr).mono ?_
  rintro e w1 ⟨rfl, hb1⟩
  have hs1 : Below w.heap.size w w1 := Below.trans (by repeat (first | exact Below.refl _ _ | refine Below.alloc ?_ (by simp <;> omega) _)) (hb1.mono (by simp <;> omega))
  have c_m_0 : w1.cell? ⟨w.heap.size, 0, none⟩ = some (.int .i64 q) := (hb1.cell (by simp <;> omega)).trans (by go_simp)
  have c_m_1 : w1.cell? ⟨w.heap.size, 1, none⟩ = some (.int .i64 d) := (hb1.cell (by simp <;> omega)).trans (by go_simp)
  have c_m_2 : w1.cell? ⟨w.heap.size, 2, none⟩ = some (.slice p gs.length cap) := (hb1.cell (by simp <;> omega)).trans (by go_simp)
  have c_a_0 : w1.cell? ⟨w.heap.size + 1, 0, none⟩ = some (.int .i64 a) := (hb1.cell (by simp <;> omega)).trans (by go_simp)
  have c_a_1 : w1.cell? ⟨w.heap.size + 1, 1, none⟩ = some (.int .i64 b) := (hb1.cell (by simp <;> omega)).trans (by go_simp)
  have z_a := World.block_lt_of_cell? _ _ c_a_0
  have z_m := World.block_lt_of_cell? _ _ c_m_0
  have hB1 := below_two hB0 hs1
  clear hB0 hs1 hb1
  go_wp2_with fail
  refine (inBar_is (HI.out.later hB1) hr h1).mono ?_
  rintro e w2 ⟨rfl, hb2⟩
  have hs2 := hb2
  replace c_m_0 := cell_later hs2 c_m_0
  replace c_m_1 := cell_later hs2 c_m_1
  replace c_m_2 := cell_later hs2 c_m_2
  replace c_a_0 := cell_later hs2 c_a_0
  replace c_a_1 := cell_later hs2 c_a_1
  clear z_a
  have z_a := World.block_lt_of_cell? _ _ c_a_0
  clear z_m
  have z_m := World.block_lt_of_cell? _ _ c_m_0
  have hB2 := below_two hB1 hs2
  clear hB1 hs2
  go_wp2_with fail
  refine (onBeat_is (HI.out.later hB2) hr h3).mono ?_
  rintro e w3 ⟨rfl, hb3⟩
  have hs3 := hb3
  replace c_m_0 := cell_later hs3 c_m_0
  replace c_m_1 := cell_later hs3 c_m_1
  replace c_m_2 := cell_later hs3 c_m_2
  replace c_a_0 := cell_later hs3 c_a_0
  replace c_a_1 := cell_later hs3 c_a_1
  clear z_a
  have z_a := World.block_lt_of_cell? _ _ c_a_0
  clear z_m
  have z_m := World.block_lt_of_cell? _ _ c_m_0
  have hB3 := below_two hB2 hs3
  clear hB2 hs3
  go_wp2
  go_ret2
  exact ⟨rfl, hB3⟩

theorem weight_any (q d : Int) (v : Value) (gs : List Int) (a b : Int) (w : World) (hI : Ints w v gs) :
    Calls Try.prog 22 #[mt q d v, rt a b] w fun ed w' => ed = .returned (.tuple #[.int .i64 (Met.wtV q d gs (a, b)), .int .i64 (Met.wtE q d gs (a, b))]) ∧ Below w.heap.size w w' := by
  unfold Met.wtV Met.wtE
  cases hr : Met.right q d gs
  · exact weight_no q d v gs a b w hI hr
  cases h1 : Met.inB q d (a, b)
  · exact weight_out q d v gs a b w hI hr h1
  have hR := Met.isRight hr
  obtain ⟨hk, hk0, _⟩ := inB_ok h1
  have b1 := hk.d1
  simp only [Bool.and_self, if_true]
  by_cases h2 : a = 0
  · rw [if_pos h2]; exact weight_zero q d v gs a b w hI hr h1 (by simp [h2])
  rw [if_neg h2]
  have h2' : (a == 0) = false := by simp [h2]
  by_cases h3 : (a, b) ∈ Met.bt q d gs
  · rw [if_pos h3]; exact weight_on q d v gs a b w hI hr h1 h2' (decide_eq_true h3)
  rw [if_neg h3]
  by_cases h4 : d % b = 0
  · rw [if_pos h4]; exact weight_part q d v gs a b w hI hr h1 h2' (decide_eq_false h3) hR.d1 hR.d64 b1 (by simp [h4])
  · rw [if_neg h4]; exact weight_off q d v gs a b w hI hr h1 h2' (decide_eq_false h3) hR.d1 hR.d64 b1 (by simp [h4])

set_option maxRecDepth 100000 in
set_option maxHeartbeats 4000000 in
theorem mcut_no (q d : Int) (v : Value) (gs : List Int) (a b c e : Int) (w : World) (hI : Ints w v gs) (hr : Met.right q d gs = false) :
    Calls Try.prog 24 #[mt q d v, rt a b, rt c e] w fun ed w' => ed = .returned (.tuple #[.slice none 0 0, .int .i64 50]) ∧ Below w.heap.size w w' := by
  obtain ⟨p, cap, rfl, hl, hc⟩ := hI
  have HI : Hid (Ints w (.slice p gs.length cap) gs) := Lib.hid ⟨p, cap, rfl, hl, hc⟩
  clear hl hc
  have hB0 : Below w.heap.size w w := Below.refl _ _
  go_enter Try.func24, Try.ntmps24
  go_wp2_with fail
  refine (mright_is (HI.out.later (((hB0.alloc hB0.size (.cells #[.int .i64 q, .int .i64 d, .slice p gs.length cap] 24)).alloc (hB0.alloc hB0.size (.cells #[.int .i64 q, .int .i64 d, .slice p gs.length cap] 24)).size (.cells #[.int .i64 a, .int .i64 b] 26)).alloc ((hB0.alloc hB0.size (.cells #[.int .i64 q, .int .i64 d, .slice p gs.length cap] 24)).alloc (hB0.alloc hB0.size (.cells #[.int .i64 q, .int .i64 d, .slice p gs.length cap] 24)).size (.cells #[.int .i64 a, .int .i64 b] 26)).size (.cells #[.int .i64 c, .int .i64 e] 26))) hr).mono ?_
  rintro e w1 ⟨rfl, hb1⟩
  have hs1 : Below w.heap.size w w1 := Below.trans (by repeat (first | exact Below.refl _ _ | refine Below.alloc ?_ (by simp <;> omega) _)) (hb1.mono (by simp <;> omega))
  have c_m_0 : w1.cell? ⟨w.heap.size, 0, none⟩ = some (.int .i64 q) := (hb1.cell (by simp <;> omega)).trans (by go_simp)
  have c_m_1 : w1.cell? ⟨w.heap.size, 1, none⟩ = some (.int .i64 d) := (hb1.cell (by simp <;> omega)).trans (by go_simp)
  have c_m_2 : w1.cell? ⟨w.heap.size, 2, none⟩ = some (.slice p gs.length cap) := (hb1.cell (by simp <;> omega)).trans (by go_simp)
  have c_a_0 : w1.cell? ⟨w.heap.size + 1, 0, none⟩ = some (.int .i64 a) := (hb1.cell (by simp <;> omega)).trans (by go_simp)
  have c_a_1 : w1.cell? ⟨w.heap.size + 1, 1, none⟩ = some (.int .i64 b) := (hb1.cell (by simp <;> omega)).trans (by go_simp)
  have c_n_0 : w1.cell? ⟨w.heap.size + 1 + 1, 0, none⟩ = some (.int .i64 c) := (hb1.cell (by simp <;> omega)).trans (by go_simp)
  have c_n_1 : w1.cell? ⟨w.heap.size + 1 + 1, 1, none⟩ = some (.int .i64 e) := (hb1.cell (by simp <;> omega)).trans (by go_simp)
  have z_a := World.block_lt_of_cell? _ _ c_a_0
  have z_m := World.block_lt_of_cell? _ _ c_m_0
  have z_n := World.block_lt_of_cell? _ _ c_n_0
  have hB1 := below_two hB0 hs1
  clear hB0 hs1 hb1
  go_wp2
  go_ret2
  exact ⟨rfl, hB1⟩

set_option maxRecDepth 100000 in
set_option maxHeartbeats 4000000 in
theorem mcut_out1 (q d : Int) (v : Value) (gs : List Int) (a b c e : Int) (w : World) (hI : Ints w v gs) (hr : Met.right q d gs = true) (h1 : Met.inB q d (a, b) = false) :
    Calls Try.prog 24 #[mt q d v, rt a b, rt c e] w fun ed w' => ed = .returned (.tuple #[.slice none 0 0, .int .i64 2]) ∧ Below w.heap.size w w' := by
  obtain ⟨p, cap, rfl, hl, hc⟩ := hI
  have HI : Hid (Ints w (.slice p gs.length cap) gs) := Lib.hid ⟨p, cap, rfl, hl, hc⟩
  clear hl hc
  have hB0 : Below w.heap.size w w := Below.refl _ _
  go_enter Try.func24, Try.ntmps24
  go_wp2_with fail
  refine (mright_is (HI.out.later (((hB0.alloc hB0.size (.cells #[.int .i64 q, .int .i64 d, .slice p gs.length cap] 24)).alloc (hB0.alloc hB0.size (.cells #[.int .i64 q, .int .i64 d, .slice p gs.length cap] 24)).size (.cells #[.int .i64 a, .int .i64 b] 26)).alloc ((hB0.alloc hB0.size (.cells #[.int .i64 q, .int .i64 d, .slice p gs.length cap] 24)).alloc (hB0.alloc hB0.size (.cells #[.int .i64 q, .int .i64 d, .slice p gs.length cap] 24)).size (.cells #[.int .i64 a, .int .i64 b] 26)).size (.cells #[.int .i64 c, .int .i64 e] 26))) hr).mono ?_
  rintro e w1 ⟨rfl, hb1⟩
  have hs1 : Below w.heap.size w w1 := Below.trans (by repeat (first | exact Below.refl _ _ | refine Below.alloc ?_ (by simp <;> omega) _)) (hb1.mono (by simp <;> omega))
  have c_m_0 : w1.cell? ⟨w.heap.size, 0, none⟩ = some (.int .i64 q) := (hb1.cell (by simp <;> omega)).trans (by go_simp)
  have c_m_1 : w1.cell? ⟨w.heap.size, 1, none⟩ = some (.int .i64 d) := (hb1.cell (by simp <;> omega)).trans (by go_simp)
  have c_m_2 : w1.cell? ⟨w.heap.size, 2, none⟩ = some (.slice p gs.length cap) := (hb1.cell (by simp <;> omega)).trans (by go_simp)
  have c_a_0 : w1.cell? ⟨w.heap.size + 1, 0, none⟩ = some (.int .i64 a) := (hb1.cell (by simp <;> omega)).trans (by go_simp)
  have c_a_1 : w1.cell? ⟨w.heap.size + 1, 1, none⟩ = some (.int .i64 b) := (hb1.cell (by simp <;> omega)).trans (by go_simp)
  have c_n_0 : w1.cell? ⟨w.heap.size + 1 + 1, 0, none⟩ = some (.int .i64 c) := (hb1.cell (by simp <;> omega)).trans (by go_simp)
  have c_n_1 : w1.cell? ⟨w.heap.size + 1 + 1, 1, none⟩ = some (.int .i64 e) := (hb1.cell (by simp <;> omega)).trans (by go_simp)
  have z_a := World.block_lt_of_cell? _ _ c_a_0
  have z_m := World.block_lt_of_cell? _ _ c_m_0
  have z_n := World.block_lt_of_cell? _ _ c_n_0
  have hB1 := below_two hB0 hs1
  clear hB0 hs1 hb1
  go_wp2_with fail
  refine (inBar_is (HI.out.later hB1) hr h1).mono ?_
  rintro e w2 ⟨rfl, hb2⟩
  have hs2 := hb2
  replace c_m_0 := cell_later hs2 c_m_0
  replace c_m_1 := cell_later hs2 c_m_1
  replace c_m_2 := cell_later hs2 c_m_2
  replace c_a_0 := cell_later hs2 c_a_0
  replace c_a_1 := cell_later hs2 c_a_1
  replace c_n_0 := cell_later hs2 c_n_0
  replace c_n_1 := cell_later hs2 c_n_1
  clear z_a
  have z_a := World.block_lt_of_cell? _ _ c_a_0
  clear z_m
  have z_m := World.block_lt_of_cell? _ _ c_m_0
  clear z_n
  have z_n := World.block_lt_of_cell? _ _ c_n_0
  have hB2 := below_two hB1 hs2
  clear hB1 hs2
  go_wp2
  go_ret2
  exact ⟨rfl, hB2⟩

set_option maxRecDepth 100000 in
set_option maxHeartbeats 4000000 in
theorem mcut_out2 (q d : Int) (v : Value) (gs : List Int) (a b c e : Int) (w : World) (hI : Ints w v gs) (hr : Met.right q d gs = true) (h1 : Met.inB q d (a, b) = true) (h2 : Met.ok (c, e) = false) :
    Calls Try.prog 24 #[mt q d v, rt a b, rt c e] w fun ed w' => ed = .returned (.tuple #[.slice none 0 0, .int .i64 2]) ∧ Below w.heap.size w w' := by
  obtain ⟨p, cap, rfl, hl, hc⟩ := hI
  have HI : Hid (Ints w (.slice p gs.length cap) gs) := Lib.hid ⟨p, cap, rfl, hl, hc⟩
  clear hl hc
  have hB0 : Below w.heap.size w w := Below.refl _ _
  go_enter Try.func24, Try.ntmps24
  go_wp2_with fail
  refine (mright_is (HI.out.later (((hB0.alloc hB0.size (.cells #[.int .i64 q, .int .i64 d, .slice p gs.length cap] 24)).alloc (hB0.alloc hB0.size (.cells #[.int .i64 q, .int .i64 d, .slice p gs.length cap] 24)).size (.cells #[.int .i64 a, .int .i64 b] 26)).alloc ((hB0.alloc hB0.size (.cells #[.int .i64 q, .int .i64 d, .slice p gs.length cap] 24)).alloc (hB0.alloc hB0.size (.cells #[.int .i64 q, .int .i64 d, .slice p gs.length cap] 24)).size (.cells #[.int .i64 a, .int .i64 b] 26)).size (.cells #[.int .i64 c, .int .i64 e] 26))) hr).mono ?_
  rintro e w1 ⟨rfl, hb1⟩
  have hs1 : Below w.heap.size w w1 := Below.trans (by repeat (first | exact Below.refl _ _ | refine Below.alloc ?_ (by simp <;> omega) _)) (hb1.mono (by simp <;> omega))
  have c_m_0 : w1.cell? ⟨w.heap.size, 0, none⟩ = some (.int .i64 q) := (hb1.cell (by simp <;> omega)).trans (by go_simp)
  have c_m_1 : w1.cell? ⟨w.heap.size, 1, none⟩ = some (.int .i64 d) := (hb1.cell (by simp <;> omega)).trans (by go_simp)
  have c_m_2 : w1.cell? ⟨w.heap.size, 2, none⟩ = some (.slice p gs.length cap) := (hb1.cell (by simp <;> omega)).trans (by go_simp)
  have c_a_0 : w1.cell? ⟨w.heap.size + 1, 0, none⟩ = some (.int .i64 a) := (hb1.cell (by simp <;> omega)).trans (by go_simp)
  have c_a_1 : w1.cell? ⟨w.heap.size + 1, 1, none⟩ = some (.int .i64 b) := (hb1.cell (by simp <;> omega)).trans (by go_simp)
  have c_n_0 : w1.cell? ⟨w.heap.size + 1 + 1, 0, none⟩ = some (.int .i64 c) := (hb1.cell (by simp <;> omega)).trans (by go_simp)
  have c_n_1 : w1.cell? ⟨w.heap.size + 1 + 1, 1, none⟩ = some (.int .i64 e) := (hb1.cell (by simp <;> omega)).trans (by go_simp)
  have z_a := World.block_lt_of_cell? _ _ c_a_0
  have z_m := World.block_lt_of_cell? _ _ c_m_0
  have z_n := World.block_lt_of_cell? _ _ c_n_0
  have hB1 := below_two hB0 hs1
  clear hB0 hs1 hb1
  go_wp2_with fail
  refine (inBar_is (HI.out.later hB1) hr h1).mono ?_
  rintro e w2 ⟨rfl, hb2⟩
  have hs2 := hb2
  replace c_m_0 := cell_later hs2 c_m_0
  replace c_m_1 := cell_later hs2 c_m_1
  replace c_m_2 := cell_later hs2 c_m_2
  replace c_a_0 := cell_later hs2 c_a_0
  replace c_a_1 := cell_later hs2 c_a_1
  replace c_n_0 := cell_later hs2 c_n_0
  replace c_n_1 := cell_later hs2 c_n_1
  clear z_a
  have z_a := World.block_lt_of_cell? _ _ c_a_0
  clear z_m
  have z_m := World.block_lt_of_cell? _ _ c_m_0
  clear z_n
  have z_n := World.block_lt_of_cell? _ _ c_n_0
  have hB2 := below_two hB1 hs2
  clear hB1 hs2
  go_wp2_with fail
  refine (right_isP h2 _).mono ?_
  rintro e w3 ⟨rfl, hb3⟩
  have hs3 := hb3
  replace c_m_0 := cell_later hs3 c_m_0
  replace c_m_1 := cell_later hs3 c_m_1
  replace c_m_2 := cell_later hs3 c_m_2
  replace c_a_0 := cell_later hs3 c_a_0
  replace c_a_1 := cell_later hs3 c_a_1
  replace c_n_0 := cell_later hs3 c_n_0
  replace c_n_1 := cell_later hs3 c_n_1
  clear z_a
  have z_a := World.block_lt_of_cell? _ _ c_a_0
  clear z_m
  have z_m := World.block_lt_of_cell? _ _ c_m_0
  clear z_n
  have z_n := World.block_lt_of_cell? _ _ c_n_0
  have hB3 := below_two hB2 hs3
  clear hB2 hs3
  go_wp2
  go_ret2
  exact ⟨rfl, hB3⟩

set_option maxRecDepth 100000 in
set_option maxHeartbeats 4000000 in
theorem mcut_out3 (q d : Int) (v : Value) (gs : List Int) (a b c e : Int) (w : World) (hI : Ints w v gs) (hr : Met.right q d gs = true) (h1 : Met.inB q d (a, b) = true) (h2 : Met.ok (c, e) = true) (h3 : c ≤ 0) :
    Calls Try.prog 24 #[mt q d v, rt a b, rt c e] w fun ed w' => ed = .returned (.tuple #[.slice none 0 0, .int .i64 2]) ∧ Below w.heap.size w w' := by
  obtain ⟨p, cap, rfl, hl, hc⟩ := hI
  have HI : Hid (Ints w (.slice p gs.length cap) gs) := Lib.hid ⟨p, cap, rfl, hl, hc⟩
  clear hl hc
  have hB0 : Below w.heap.size w w := Below.refl _ _
  go_enter Try.func24, Try.ntmps24
  go_wp2_with fail
  refine (mright_is (HI.out.later (((hB0.alloc hB0.size (.cells #[.int .i64 q, .int .i64 d, .slice p gs.length cap] 24)).alloc (hB0.alloc hB0.size (.cells #[.int .i64 q, .int .i64 d, .slice p gs.length cap] 24)).size (.cells #[.int .i64 a, .int .i64 b] 26)).alloc ((hB0.alloc hB0.size (.cells #[.int .i64 q, .int .i64 d, .slice p gs.length cap] 24)).alloc (hB0.alloc hB0.size (.cells #[.int .i64 q, .int .i64 d, .slice p gs.length cap] 24)).size (.cells #[.int .i64 a, .int .i64 b] 26)).size (.cells #[.int .i64 c, .int .i64 e] 26))) hr).mono ?_
  rintro e w1 ⟨rfl, hb1⟩
  have hs1 : Below w.heap.size w w1 := Below.trans (by repeat (first | exact Below.refl _ _ | refine Below.alloc ?_ (by simp <;> omega) _)) (hb1.mono (by simp <;> omega))
  have c_m_0 : w1.cell? ⟨w.heap.size, 0, none⟩ = some (.int .i64 q) := (hb1.cell (by simp <;> omega)).trans (by go_simp)
  have c_m_1 : w1.cell? ⟨w.heap.size, 1, none⟩ = some (.int .i64 d) := (hb1.cell (by simp <;> omega)).trans (by go_simp)
  have c_m_2 : w1.cell? ⟨w.heap.size, 2, none⟩ = some (.slice p gs.length cap) := (hb1.cell (by simp <;> omega)).trans (by go_simp)
  have c_a_0 : w1.cell? ⟨w.heap.size + 1, 0, none⟩ = some (.int .i64 a) := (hb1.cell (by simp <;> omega)).trans (by go_simp)
  have c_a_1 : w1.cell? ⟨w.heap.size + 1, 1, none⟩ = some (.int .i64 b) := (hb1.cell (by simp <;> omega)).trans (by go_simp)
  have c_n_0 : w1.cell? ⟨w.heap.size + 1 + 1, 0, none⟩ = some (.int .i64 c) := (hb1.cell (by simp <;> omega)).trans (by go_simp)
  have c_n_1 : w1.cell? ⟨w.heap.size + 1 + 1, 1, none⟩ = some (.int .i64 e) := (hb1.cell (by simp <;> omega)).trans (by go_simp)
  have z_a := World.block_lt_of_cell? _ _ c_a_0
  have z_m := World.block_lt_of_cell? _ _ c_m_0
  have z_n := World.block_lt_of_cell? _ _ c_n_0
  have hB1 := below_two hB0 hs1
  clear hB0 hs1 hb1
  go_wp2_with fail
  refine (inBar_is (HI.out.later hB1) hr h1).mono ?_
  rintro e w2 ⟨rfl, hb2⟩
  have hs2 := hb2
  replace c_m_0 := cell_later hs2 c_m_0
  replace c_m_1 := cell_later hs2 c_m_1
  replace c_m_2 := cell_later hs2 c_m_2
  replace c_a_0 := cell_later hs2 c_a_0
  replace c_a_1 := cell_later hs2 c_a_1
  replace c_n_0 := cell_later hs2 c_n_0
  replace c_n_1 := cell_later hs2 c_n_1
  clear z_a
  have z_a := World.block_lt_of_cell? _ _ c_a_0
  clear z_m
  have z_m := World.block_lt_of_cell? _ _ c_m_0
  clear z_n
  have z_n := World.block_lt_of_cell? _ _ c_n_0
  have hB2 := below_two hB1 hs2
  clear hB1 hs2
  go_wp2_with fail
  refine (right_isP h2 _).mono ?_
  rintro e w3 ⟨rfl, hb3⟩
  have hs3 := hb3
  replace c_m_0 := cell_later hs3 c_m_0
  replace c_m_1 := cell_later hs3 c_m_1
  replace c_m_2 := cell_later hs3 c_m_2
  replace c_a_0 := cell_later hs3 c_a_0
  replace c_a_1 := cell_later hs3 c_a_1
  replace c_n_0 := cell_later hs3 c_n_0
  replace c_n_1 := cell_later hs3 c_n_1
  clear z_a
  have z_a := World.block_lt_of_cell? _ _ c_a_0
  clear z_m
  have z_m := World.block_lt_of_cell? _ _ c_m_0
  clear z_n
  have z_n := World.block_lt_of_cell? _ _ c_n_0
  have hB3 := below_two hB2 hs3
  clear hB2 hs3
  go_wp2
  go_ret2
  exact ⟨rfl, hB3⟩

set_option maxRecDepth 100000 in
set_option maxHeartbeats 4000000 in
theorem mcut_add (q d : Int) (v : Value) (gs : List Int) (a b c e : Int) (w : World) (hI : Ints w v gs) (hr : Met.right q d gs = true) (h1 : Met.inB q d (a, b) = true) (h2 : Met.ok (c, e) = true) (h3 : 0 < c) (E : Int) (HE : Hid (Met.adE (a, b) (c, e) = E)) (h4 : (E != 0) = true) :
    Calls Try.prog 24 #[mt q d v, rt a b, rt c e] w fun ed w' => ed = .returned (.tuple #[.slice none 0 0, .int .i64 E]) ∧ Below w.heap.size w w' := by
  obtain ⟨p, cap, rfl, hl, hc⟩ := hI
  have HI : Hid (Ints w (.slice p gs.length cap) gs) := Lib.hid ⟨p, cap, rfl, hl, hc⟩
  clear hl hc
  obtain ⟨Y, HY⟩ : ∃ Y, Hid (Met.ad (a, b) (c, e) = Y) := ⟨_, Lib.hid rfl⟩
  obtain ⟨y0, y1⟩ := Y
  have hB0 : Below w.heap.size w w := Below.refl _ _
  go_enter Try.func24, Try.ntmps24
  go_wp2_with fail
  refine (mright_is (HI.out.later (((hB0.alloc hB0.size (.cells #[.int .i64 q, .int .i64 d, .slice p gs.length cap] 24)).alloc (hB0.alloc hB0.size (.cells #[.int .i64 q, .int .i64 d, .slice p gs.length cap] 24)).size (.cells #[.int .i64 a, .int .i64 b] 26)).alloc ((hB0.alloc hB0.size (.cells #[.int .i64 q, .int .i64 d, .slice p gs.length cap] 24)).alloc (hB0.alloc hB0.size (.cells #[.int .i64 q, .int .i64 d, .slice p gs.length cap] 24)).size (.cells #[.int .i64 a, .int .i64 b] 26)).size (.cells #[.int .i64 c, .int .i64 e] 26))) hr).mono ?_
  rintro e w1 ⟨rfl, hb1⟩
  have hs1 : Below w.heap.size w w1 := Below.trans (by repeat (first | exact Below.refl _ _ | refine Below.alloc ?_ (by simp <;> omega) _)) (hb1.mono (by simp <;> omega))
  have c_m_0 : w1.cell? ⟨w.heap.size, 0, none⟩ = some (.int .i64 q) := (hb1.cell (by simp <;> omega)).trans (by go_simp)
  have c_m_1 : w1.cell? ⟨w.heap.size, 1, none⟩ = some (.int .i64 d) := (hb1.cell (by simp <;> omega)).trans (by go_simp)
  have c_m_2 : w1.cell? ⟨w.heap.size, 2, none⟩ = some (.slice p gs.length cap) := (hb1.cell (by simp <;> omega)).trans (by go_simp)
  have c_a_0 : w1.cell? ⟨w.heap.size + 1, 0, none⟩ = some (.int .i64 a) := (hb1.cell (by simp <;> omega)).trans (by go_simp)
  have c_a_1 : w1.cell? ⟨w.heap.size + 1, 1, none⟩ = some (.int .i64 b) := (hb1.cell (by simp <;> omega)).trans (by go_simp)
  have c_n_0 : w1.cell? ⟨w.heap.size + 1 + 1, 0, none⟩ = some (.int .i64 c) := (hb1.cell (by simp <;> omega)).trans (by go_simp)
  have c_n_1 : w1.cell? ⟨w.heap.size + 1 + 1, 1, none⟩ = some (.int .i64 e) := (hb1.cell (by simp <;> omega)).trans (by go_simp)
  have z_a := World.block_lt_of_cell? _ _ c_a_0
  have z_m := World.block_lt_of_cell? _ _ c_m_0
  have z_n := World.block_lt_of_cell? _ _ c_n_0
  have hB1 := below_two hB0 hs1
  clear hB0 hs1 hb1
  go_wp2_with fail
  refine (inBar_is (HI.out.later hB1) hr h1).mono ?_
  rintro e w2 ⟨rfl, hb2⟩
  have hs2 := hb2
  replace c_m_0 := cell_later hs2 c_m_0
  replace c_m_1 := cell_later hs2 c_m_1
  replace c_m_2 := cell_later hs2 c_m_2
  replace c_a_0 := cell_later hs2 c_a_0
  replace c_a_1 := cell_later hs2 c_a_1
  replace c_n_0 := cell_later hs2 c_n_0
  replace c_n_1 := cell_later hs2 c_n_1
  clear z_a
  have z_a := World.block_lt_of_cell? _ _ c_a_0
  clear z_m
  have z_m := World.block_lt_of_cell? _ _ c_m_0
  clear z_n
  have z_n := World.block_lt_of_cell? _ _ c_n_0
  have hB2 := below_two hB1 hs2
  clear hB1 hs2
  go_wp2_with fail
  refine (right_isP h2 _).mono ?_
  rintro e w3 ⟨rfl, hb3⟩
  have hs3 := hb3
  replace c_m_0 := cell_later hs3 c_m_0
  replace c_m_1 := cell_later hs3 c_m_1
  replace c_m_2 := cell_later hs3 c_m_2
  replace c_a_0 := cell_later hs3 c_a_0
  replace c_a_1 := cell_later hs3 c_a_1
  replace c_n_0 := cell_later hs3 c_n_0
  replace c_n_1 := cell_later hs3 c_n_1
  clear z_a
  have z_a := World.block_lt_of_cell? _ _ c_a_0
  clear z_m
  have z_m := World.block_lt_of_cell? _ _ c_m_0
  clear z_n
  have z_n := World.block_lt_of_cell? _ _ c_n_0
  have hB3 := below_two hB2 hs3
  clear hB2 hs3
  go_wp2_with fail
  refine (addP (a, b) (c, e) _).mono ?_
  rintro e w4 ⟨rfl, hb4⟩
  have hs4 := hb4
  replace c_m_0 := cell_later hs4 c_m_0
  replace c_m_1 := cell_later hs4 c_m_1
  replace c_m_2 := cell_later hs4 c_m_2
  replace c_a_0 := cell_later hs4 c_a_0
  replace c_a_1 := cell_later hs4 c_a_1
  replace c_n_0 := cell_later hs4 c_n_0
  replace c_n_1 := cell_later hs4 c_n_1
  clear z_a
  have z_a := World.block_lt_of_cell? _ _ c_a_0
  clear z_m
  have z_m := World.block_lt_of_cell? _ _ c_m_0
  clear z_n
  have z_n := World.block_lt_of_cell? _ _ c_n_0
  have hB4 := below_two hB3 hs4
  clear hB3 hs4
  rw [HY.out, HE.out]
  dsimp only
  go_wp2
  go_ret2
  exact ⟨rfl, hB4.alloc hB4.size _⟩

set_option maxRecDepth 100000 in
set_option maxHeartbeats 4000000 in
theorem mcut_big (q d : Int) (v : Value) (gs : List Int) (a b c e : Int) (w : World) (hI : Ints w v gs) (hr : Met.right q d gs = true) (h1 : Met.inB q d (a, b) = true) (h2 : Met.ok (c, e) = true) (h3 : 0 < c) (HE : Hid (Met.adE (a, b) (c, e) = 0)) (m : Int) (HM : Hid (Met.cm (Met.ad (a, b) (c, e)) (Met.of q d) = m)) (h5 : 0 < m) :
    Calls Try.prog 24 #[mt q d v, rt a b, rt c e] w fun ed w' => ed = .returned (.tuple #[.slice none 0 0, .int .i64 2]) ∧ Below w.heap.size w w' := by
  obtain ⟨p, cap, rfl, hl, hc⟩ := hI
  have HI : Hid (Ints w (.slice p gs.length cap) gs) := Lib.hid ⟨p, cap, rfl, hl, hc⟩
  clear hl hc
  obtain ⟨Y, HY⟩ : ∃ Y, Hid (Met.ad (a, b) (c, e) = Y) := ⟨_, Lib.hid rfl⟩
  obtain ⟨y0, y1⟩ := Y
  obtain ⟨X, HX⟩ : ∃ X, Hid (Met.of q d = X) := ⟨_, Lib.hid rfl⟩
  obtain ⟨x, y⟩ := X
  rw [HY.out, HX.out] at HM
  have hB0 : Below w.heap.size w w := Below.refl _ _
  go_enter Try.func24, Try.ntmps24
  go_wp2_with fail
  refine (mright_is (HI.out.later (((hB0.alloc hB0.size (.cells #[.int .i64 q, .int .i64 d, .slice p gs.length cap] 24)).alloc (hB0.alloc hB0.size (.cells #[.int .i64 q, .int .i64 d, .slice p gs.length cap] 24)).size (.cells #[.int .i64 a, .int .i64 b] 26)).alloc ((hB0.alloc hB0.size (.cells #[.int .i64 q, .int .i64 d, .slice p gs.length cap] 24)).alloc (hB0.alloc hB0.size (.cells #[.int .i64 q, .int .i64 d, .slice p gs.length cap] 24)).size (.cells #[.int .i64 a, .int .i64 b] 26)).size (.cells #[.int .i64 c, .int .i64 e] 26))) hr).mono ?_
  rintro e w1 ⟨rfl, hb1⟩
  have hs1 : Below w.heap.size w w1 := Below.trans (by repeat (first | exact Below.refl _ _ | refine Below.alloc ?_ (by simp <;> omega) _)) (hb1.mono (by simp <;> omega))
  have c_m_0 : w1.cell? ⟨w.heap.size, 0, none⟩ = some (.int .i64 q) := (hb1.cell (by simp <;> omega)).trans (by go_simp)
  have c_m_1 : w1.cell? ⟨w.heap.size, 1, none⟩ = some (.int .i64 d) := (hb1.cell (by simp <;> omega)).trans (by go_simp)
  have c_m_2 : w1.cell? ⟨w.heap.size, 2, none⟩ = some (.slice p gs.length cap) := (hb1.cell (by simp <;> omega)).trans (by go_simp)
  have c_a_0 : w1.cell? ⟨w.heap.size + 1, 0, none⟩ = some (.int .i64 a) := (hb1.cell (by simp <;> omega)).trans (by go_simp)
  have c_a_1 : w1.cell? ⟨w.heap.size + 1, 1, none⟩ = some (.int .i64 b) := (hb1.cell (by simp <;> omega)).trans (by go_simp)
  have c_n_0 : w1.cell? ⟨w.heap.size + 1 + 1, 0, none⟩ = some (.int .i64 c) := (hb1.cell (by simp <;> omega)).trans (by go_simp)
  have c_n_1 : w1.cell? ⟨w.heap.size + 1 + 1, 1, none⟩ = some (.int .i64 e) := (hb1.cell (by simp <;> omega)).trans (by go_simp)
  have z_a := World.block_lt_of_cell? _ _ c_a_0
  have z_m := World.block_lt_of_cell? _ _ c_m_0
  have z_n := World.block_lt_of_cell? _ _ c_n_0
  have hB1 := below_two hB0 hs1
  clear hB0 hs1 hb1
  go_wp2_with fail
  refine (inBar_is (HI.out.later hB1) hr h1).mono ?_
  rintro e w2 ⟨rfl, hb2⟩
  have hs2 := hb2
  replace c_m_0 := cell_later hs2 c_m_0
  replace c_m_1 := cell_later hs2 c_m_1
  replace c_m_2 := cell_later hs2 c_m_2
  replace c_a_0 := cell_later hs2 c_a_0
  replace c_a_1 := cell_later hs2 c_a_1
  replace c_n_0 := cell_later hs2 c_n_0
  replace c_n_1 := cell_later hs2 c_n_1
  clear z_a
  have z_a := World.block_lt_of_cell? _ _ c_a_0
  clear z_m
  have z_m := World.block_lt_of_cell? _ _ c_m_0
  clear z_n
  have z_n := World.block_lt_of_cell? _ _ c_n_0
  have hB2 := below_two hB1 hs2
  clear hB1 hs2
  go_wp2_with fail
  refine (right_isP h2 _).mono ?_
  rintro e w3 ⟨rfl, hb3⟩
  have hs3 := hb3
  replace c_m_0 := cell_later hs3 c_m_0
  replace c_m_1 := cell_later hs3 c_m_1
  replace c_m_2 := cell_later hs3 c_m_2
  replace c_a_0 := cell_later hs3 c_a_0
  replace c_a_1 := cell_later hs3 c_a_1
  replace c_n_0 := cell_later hs3 c_n_0
  replace c_n_1 := cell_later hs3 c_n_1
  clear z_a
  have z_a := World.block_lt_of_cell? _ _ c_a_0
  clear z_m
  have z_m := World.block_lt_of_cell? _ _ c_m_0
  clear z_n
  have z_n := World.block_lt_of_cell? _ _ c_n_0
  have hB3 := below_two hB2 hs3
  clear hB2 hs3
  go_wp2_with fail
  refine (addP (a, b) (c, e) _).mono ?_
  rintro e w4 ⟨rfl, hb4⟩
  have hs4 := hb4
  replace c_m_0 := cell_later hs4 c_m_0
  replace c_m_1 := cell_later hs4 c_m_1
  replace c_m_2 := cell_later hs4 c_m_2
  replace c_a_0 := cell_later hs4 c_a_0
  replace c_a_1 := cell_later hs4 c_a_1
  replace c_n_0 := cell_later hs4 c_n_0
  replace c_n_1 := cell_later hs4 c_n_1
  clear z_a
  have z_a := World.block_lt_of_cell? _ _ c_a_0
  clear z_m
  have z_m := World.block_lt_of_cell? _ _ c_m_0
  clear z_n
  have z_n := World.block_lt_of_cell? _ _ c_n_0
  have hB4 := below_two hB3 hs4
  clear hB3 hs4
  rw [HY.out, HE.out]
  dsimp only
  go_wp2_with fail
  refine (mlength_right (HI.out.later (hB4.alloc hB4.size (.cells #[.int .i64 y0, .int .i64 y1] 26))) hr HX.out).mono ?_
  rintro e w5 ⟨rfl, hb5⟩
  have hs5 : Below w4.heap.size w4 w5 := Below.trans (by repeat (first | exact Below.refl _ _ | refine Below.alloc ?_ (by simp <;> omega) _)) (hb5.mono (by simp <;> omega))
  replace c_m_0 := cell_later hs5 c_m_0
  replace c_m_1 := cell_later hs5 c_m_1
  replace c_m_2 := cell_later hs5 c_m_2
  replace c_a_0 := cell_later hs5 c_a_0
  replace c_a_1 := cell_later hs5 c_a_1
  replace c_n_0 := cell_later hs5 c_n_0
  replace c_n_1 := cell_later hs5 c_n_1
  have c_z_0 : w5.cell? ⟨w4.heap.size, 0, none⟩ = some (.int .i64 y0) := (hb5.cell (by simp <;> omega)).trans (by go_simp)
  have c_z_1 : w5.cell? ⟨w4.heap.size, 1, none⟩ = some (.int .i64 y1) := (hb5.cell (by simp <;> omega)).trans (by go_simp)
  clear z_a
  have z_a := World.block_lt_of_cell? _ _ c_a_0
  clear z_m
  have z_m := World.block_lt_of_cell? _ _ c_m_0
  clear z_n
  have z_n := World.block_lt_of_cell? _ _ c_n_0
  have z_z := World.block_lt_of_cell? _ _ c_z_0
  have hB5 := below_two hB4 hs5
  clear hB4 hs5 hb5
  go_wp2_with fail
  refine (compareP (y0, y1) (x, y) _).mono ?_
  rintro e w6 ⟨rfl, hb6⟩
  have hs6 : Below w5.heap.size w5 w6 := Below.trans (by repeat (first | exact Below.refl _ _ | refine Below.alloc ?_ (by simp <;> omega) _)) (hb6.mono (by simp <;> omega))
  replace c_m_0 := cell_later hs6 c_m_0
  replace c_m_1 := cell_later hs6 c_m_1
  replace c_m_2 := cell_later hs6 c_m_2
  replace c_a_0 := cell_later hs6 c_a_0
  replace c_a_1 := cell_later hs6 c_a_1
  replace c_n_0 := cell_later hs6 c_n_0
  replace c_n_1 := cell_later hs6 c_n_1
  replace c_z_0 := cell_later hs6 c_z_0
  replace c_z_1 := cell_later hs6 c_z_1
  have c_l_0 : w6.cell? ⟨w5.heap.size, 0, none⟩ = some (.int .i64 x) := (hb6.cell (by simp <;> omega)).trans (by go_simp)
  have c_l_1 : w6.cell? ⟨w5.heap.size, 1, none⟩ = some (.int .i64 y) := (hb6.cell (by simp <;> omega)).trans (by go_simp)
  clear z_a
  have z_a := World.block_lt_of_cell? _ _ c_a_0
  have z_l := World.block_lt_of_cell? _ _ c_l_0
  clear z_m
  have z_m := World.block_lt_of_cell? _ _ c_m_0
  clear z_n
  have z_n := World.block_lt_of_cell? _ _ c_n_0
  clear z_z
  have z_z := World.block_lt_of_cell? _ _ c_z_0
  have hB6 := below_two hB5 hs6
  clear hB5 hs6 hb6
  rw [HM.out]
  go_wp2
  go_ret2
  exact ⟨rfl, hB6⟩

set_option maxRecDepth 100000 in
set_option maxHeartbeats 4000000 in
theorem mcut_yes (q d : Int) (v : Value) (gs : List Int) (a b c e : Int) (w : World) (hI : Ints w v gs) (hr : Met.right q d gs = true) (h1 : Met.inB q d (a, b) = true) (h2 : Met.ok (c, e) = true) (h3 : 0 < c) (HE : Hid (Met.adE (a, b) (c, e) = 0)) (m : Int) (HM : Hid (Met.cm (Met.ad (a, b) (c, e)) (Met.of q d) = m)) (h5 : m ≤ 0) :
    Calls Try.prog 24 #[mt q d v, rt a b, rt c e] w fun ed w' => (∃ u, ed = .returned (.tuple #[u, .int .i64 (Met.pcs q d gs (a, b) (Met.ad (a, b) (c, e))).1]) ∧ PrsC w' u (Met.pcs q d gs (a, b) (Met.ad (a, b) (c, e))).2) ∧ Below w.heap.size w w' := by
  obtain ⟨p, cap, rfl, hl, hc⟩ := hI
  have HI : Hid (Ints w (.slice p gs.length cap) gs) := Lib.hid ⟨p, cap, rfl, hl, hc⟩
  clear hl hc
  obtain ⟨Y, HY⟩ : ∃ Y, Hid (Met.ad (a, b) (c, e) = Y) := ⟨_, Lib.hid rfl⟩
  obtain ⟨y0, y1⟩ := Y
  obtain ⟨X, HX⟩ : ∃ X, Hid (Met.of q d = X) := ⟨_, Lib.hid rfl⟩
  obtain ⟨x, y⟩ := X
  rw [HY.out, HX.out] at HM
  rw [HY.out]
  obtain ⟨PP, HPP⟩ : ∃ PP, Hid (Met.pcs q d gs (a, b) (y0, y1) = PP) := ⟨_, Lib.hid rfl⟩
  rw [HPP.out]
  obtain ⟨E, L⟩ := PP
  dsimp only
  have hB0 : Below w.heap.size w w := Below.refl _ _
  go_enter Try.func24, Try.ntmps24
  go_wp2_with fail
  refine (mright_is (HI.out.later (((hB0.alloc hB0.size (.cells #[.int .i64 q, .int .i64 d, .slice p gs.length cap] 24)).alloc (hB0.alloc hB0.size (.cells #[.int .i64 q, .int .i64 d, .slice p gs.length cap] 24)).size (.cells #[.int .i64 a, .int .i64 b] 26)).alloc ((hB0.alloc hB0.size (.cells #[.int .i64 q, .int .i64 d, .slice p gs.length cap] 24)).alloc (hB0.alloc hB0.size (.cells #[.int .i64 q, .int .i64 d, .slice p gs.length cap] 24)).size (.cells #[.int .i64 a, .int .i64 b] 26)).size (.cells #[.int .i64 c, .int .i64 e] 26))) hr).mono ?_
  rintro e w1 ⟨rfl, hb1⟩
  have hs1 : Below w.heap.size w w1 := Below.trans (by repeat (first | exact Below.refl _ _ | refine Below.alloc ?_ (by simp <;> omega) _)) (hb1.mono (by simp <;> omega))
  have c_m_0 : w1.cell? ⟨w.heap.size, 0, none⟩ = some (.int .i64 q) := (hb1.cell (by simp <;> omega)).trans (by go_simp)
  have c_m_1 : w1.cell? ⟨w.heap.size, 1, none⟩ = some (.int .i64 d) := (hb1.cell (by simp <;> omega)).trans (by go_simp)
  have c_m_2 : w1.cell? ⟨w.heap.size, 2, none⟩ = some (.slice p gs.length cap) := (hb1.cell (by simp <;> omega)).trans (by go_simp)
  have c_a_0 : w1.cell? ⟨w.heap.size + 1, 0, none⟩ = some (.int .i64 a) := (hb1.cell (by simp <;> omega)).trans (by go_simp)
  have c_a_1 : w1.cell? ⟨w.heap.size + 1, 1, none⟩ = some (.int .i64 b) := (hb1.cell (by simp <;> omega)).trans (by go_simp)
  have c_n_0 : w1.cell? ⟨w.heap.size + 1 + 1, 0, none⟩ = some (.int .i64 c) := (hb1.cell (by simp <;> omega)).trans (by go_simp)
  have c_n_1 : w1.cell? ⟨w.heap.size + 1 + 1, 1, none⟩ = some (.int .i64 e) := (hb1.cell (by simp <;> omega)).trans (by go_simp)
  have z_a := World.block_lt_of_cell? _ _ c_a_0
  have z_m := World.block_lt_of_cell? _ _ c_m_0
  have z_n := World.block_lt_of_cell? _ _ c_n_0
  have hB1 := below_two hB0 hs1
  clear hB0 hs1 hb1
  go_wp2_with fail
  refine (inBar_is (HI.out.later hB1) hr h1).mono ?_
  rintro e w2 ⟨rfl, hb2⟩
  have hs2 := hb2
  replace c_m_0 := cell_later hs2 c_m_0
  replace c_m_1 := cell_later hs2 c_m_1
  replace c_m_2 := cell_later hs2 c_m_2
  replace c_a_0 := cell_later hs2 c_a_0
  replace c_a_1 := cell_later hs2 c_a_1
  replace c_n_0 := cell_later hs2 c_n_0
  replace c_n_1 := cell_later hs2 c_n_1
  clear z_a
  have z_a := World.block_lt_of_cell? _ _ c_a_0
  clear z_m
  have z_m := World.block_lt_of_cell? _ _ c_m_0
  clear z_n
  have z_n := World.block_lt_of_cell? _ _ c_n_0
  have hB2 := below_two hB1 hs2
  clear hB1 hs2
  go_wp2_with fail
  refine (right_isP h2 _).mono ?_
  rintro e w3 ⟨rfl, hb3⟩
  have hs3 := hb3
  replace c_m_0 := cell_later hs3 c_m_0
  replace c_m_1 := cell_later hs3 c_m_1
  replace c_m_2 := cell_later hs3 c_m_2
  replace c_a_0 := cell_later hs3 c_a_0
  replace c_a_1 := cell_later hs3 c_a_1
  replace c_n_0 := cell_later hs3 c_n_0
  replace c_n_1 := cell_later hs3 c_n_1
  clear z_a
  have z_a := World.block_lt_of_cell? _ _ c_a_0
  clear z_m
  have z_m := World.block_lt_of_cell? _ _ c_m_0
  clear z_n
  have z_n := World.block_lt_of_cell? _ _ c_n_0
  have hB3 := below_two hB2 hs3
  clear hB2 hs3
  go_wp2_with fail
  refine (addP (a, b) (c, e) _).mono ?_
  rintro e w4 ⟨rfl, hb4⟩
  have hs4 := hb4
  replace c_m_0 := cell_later hs4 c_m_0
  replace c_m_1 := cell_later hs4 c_m_1
  replace c_m_2 := cell_later hs4 c_m_2
  replace c_a_0 := cell_later hs4 c_a_0
  replace c_a_1 := cell_later hs4 c_a_1
  replace c_n_0 := cell_later hs4 c_n_0
  replace c_n_1 := cell_later hs4 c_n_1
  clear z_a
  have z_a := World.block_lt_of_cell? _ _ c_a_0
  clear z_m
  have z_m := World.block_lt_of_cell? _ _ c_m_0
  clear z_n
  have z_n := World.block_lt_of_cell? _ _ c_n_0
  have hB4 := below_two hB3 hs4
  clear hB3 hs4
  rw [HY.out, HE.out]
  dsimp only
  go_wp2_with fail
  refine (mlength_right (HI.out.later (hB4.alloc hB4.size (.cells #[.int .i64 y0, .int .i64 y1] 26))) hr HX.out).mono ?_
  rintro e w5 ⟨rfl, hb5⟩
  have hs5 : Below w4.heap.size w4 w5 := Below.trans (by repeat (first | exact Below.refl _ _ | refine Below.alloc ?_ (by simp <;> omega) _)) (hb5.mono (by simp <;> omega))
  replace c_m_0 := cell_later hs5 c_m_0
  replace c_m_1 := cell_later hs5 c_m_1
  replace c_m_2 := cell_later hs5 c_m_2
  replace c_a_0 := cell_later hs5 c_a_0
  replace c_a_1 := cell_later hs5 c_a_1
  replace c_n_0 := cell_later hs5 c_n_0
  replace c_n_1 := cell_later hs5 c_n_1
  have c_z_0 : w5.cell? ⟨w4.heap.size, 0, none⟩ = some (.int .i64 y0) := (hb5.cell (by simp <;> omega)).trans (by go_simp)
  have c_z_1 : w5.cell? ⟨w4.heap.size, 1, none⟩ = some (.int .i64 y1) := (hb5.cell (by simp <;> omega)).trans (by go_simp)
  clear z_a
  have z_a := World.block_lt_of_cell? _ _ c_a_0
  clear z_m
  have z_m := World.block_lt_of_cell? _ _ c_m_0
  clear z_n
  have z_n := World.block_lt_of_cell? _ _ c_n_0
  have z_z := World.block_lt_of_cell? _ _ c_z_0
  have hB5 := below_two hB4 hs5
  clear hB4 hs5 hb5
  go_wp2_with fail
  refine (compareP (y0, y1) (x, y) _).mono ?_
  rintro e w6 ⟨rfl, hb6⟩
  have hs6 : Below w5.heap.size w5 w6 := Below.trans (by repeat (first | exact Below.refl _ _ | refine Below.alloc ?_ (by simp <;> omega) _)) (hb6.mono (by simp <;> omega))
  replace c_m_0 := cell_later hs6 c_m_0
  replace c_m_1 := cell_later hs6 c_m_1
  replace c_m_2 := cell_later hs6 c_m_2
  replace c_a_0 := cell_later hs6 c_a_0
  replace c_a_1 := cell_later hs6 c_a_1
  replace c_n_0 := cell_later hs6 c_n_0
  replace c_n_1 := cell_later hs6 c_n_1
  replace c_z_0 := cell_later hs6 c_z_0
  replace c_z_1 := cell_later hs6 c_z_1
  have c_l_0 : w6.cell? ⟨w5.heap.size, 0, none⟩ = some (.int .i64 x) := (hb6.cell (by simp <;> omega)).trans (by go_simp)
  have c_l_1 : w6.cell? ⟨w5.heap.size, 1, none⟩ = some (.int .i64 y) := (hb6.cell (by simp <;> omega)).trans (by go_simp)
  clear z_a
  have z_a := World.block_lt_of_cell? _ _ c_a_0
  have z_l := World.block_lt_of_cell? _ _ c_l_0
  clear z_m
  have z_m := World.block_lt_of_cell? _ _ c_m_0
  clear z_n
  have z_n := World.block_lt_of_cell? _ _ c_n_0
  clear z_z
  have z_z := World.block_lt_of_cell? _ _ c_z_0
  have hB6 := below_two hB5 hs6
  clear hB5 hs6 hb6
  rw [HM.out]
  have hp := pieces_any q d _ gs a b y0 y1 _ (HI.out.later hB6) hr
  rw [HPP.out] at hp
  dsimp only at hp
  go_wp2_with fail
  refine hp.mono ?_
  rintro ed w9 ⟨⟨u, rfl, hu⟩, hb9⟩
  go_wp2
  go_ret2
  exact ⟨⟨_, rfl, hu⟩, below_two hB6 hb9⟩

theorem mcut_any (q d : Int) (v : Value) (gs : List Int) (a b c e : Int) (w : World) (hI : Ints w v gs) :
    Calls Try.prog 24 #[mt q d v, rt a b, rt c e] w fun ed w' => (∃ u, ed = .returned (.tuple #[u, .int .i64 (Met.ct q d gs (a, b) (c, e)).1]) ∧ PrsC w' u (Met.ct q d gs (a, b) (c, e)).2) ∧ Below w.heap.size w w' := by
  have nil : ∀ (E : Int), Met.ct q d gs (a, b) (c, e) = (E, []) → (Calls Try.prog 24 #[mt q d v, rt a b, rt c e] w fun ed w' => ed = .returned (.tuple #[.slice none 0 0, .int .i64 E]) ∧ Below w.heap.size w w') → Calls Try.prog 24 #[mt q d v, rt a b, rt c e] w fun ed w' => (∃ u, ed = .returned (.tuple #[u, .int .i64 (Met.ct q d gs (a, b) (c, e)).1]) ∧ PrsC w' u (Met.ct q d gs (a, b) (c, e)).2) ∧ Below w.heap.size w w' := fun E h hc => by
    rw [h]
    exact hc.mono fun _ _ ⟨he, hb⟩ => ⟨⟨_, he, PrsC.none _⟩, hb⟩
  cases hr : Met.right q d gs
  · exact nil _ (by unfold Met.ct; rw [hr]; rfl) (mcut_no q d v gs a b c e w hI hr)
  cases h1 : Met.inB q d (a, b)
  · exact nil _ (by unfold Met.ct; rw [hr, h1]; rfl) (mcut_out1 q d v gs a b c e w hI hr h1)
  cases h2 : Met.ok (c, e)
  · exact nil _ (by unfold Met.ct; rw [hr, h1, h2]; rfl) (mcut_out2 q d v gs a b c e w hI hr h1 h2)
  by_cases h3 : ¬ 0 < c
  · exact nil _ (by unfold Met.ct; rw [hr, h1, h2, if_pos rfl, if_neg (by simp; omega)]) (mcut_out3 q d v gs a b c e w hI hr h1 h2 (by omega))
  replace h3 : 0 < c := by omega
  have e1 : Met.ct q d gs (a, b) (c, e) = if Met.adE (a, b) (c, e) = 0 then (if 0 < Met.cm (Met.ad (a, b) (c, e)) (Met.of q d) then (2, []) else Met.pcs q d gs (a, b) (Met.ad (a, b) (c, e))) else (Met.adE (a, b) (c, e), []) := by
    unfold Met.ct; rw [hr, h1, h2, if_pos rfl, if_pos (by simpa using h3)]
  by_cases h4 : ¬ Met.adE (a, b) (c, e) = 0
  · exact nil _ (by rw [e1, if_neg h4]) (mcut_add q d v gs a b c e w hI hr h1 h2 h3 _ (Lib.hid rfl) (by simp [h4]))
  replace h4 : Met.adE (a, b) (c, e) = 0 := Decidable.not_not.1 h4
  by_cases h5 : 0 < Met.cm (Met.ad (a, b) (c, e)) (Met.of q d)
  · exact nil _ (by rw [e1, if_pos h4, if_pos h5]) (mcut_big q d v gs a b c e w hI hr h1 h2 h3 (Lib.hid h4) _ (Lib.hid rfl) h5)
  · rw [e1, if_pos h4, if_neg h5]
    exact mcut_yes q d v gs a b c e w hI hr h1 h2 h3 (Lib.hid h4) _ (Lib.hid rfl) (by omega)
end Go.Proofs.Ytlodhfdikglgoaa
