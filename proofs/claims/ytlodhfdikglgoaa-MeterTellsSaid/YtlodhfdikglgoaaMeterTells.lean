/-
  MeterTells answers true: the law's walk.
-/
import Derived.Test.YtlodhfdikglgoaaMetQ
import Derived.Test.YtlodhfdikglgoaaMeterSame
import Derived.Lib.QuietBelow
import Derived.BigQuiet
import Derived.Deep.RegionHeld3
namespace Go.Proofs.Ytlodhfdikglgoaa
open Go.RowKit

theorem ints_open {W : World} {v : Value} {l : List Int} (h : Ints W v l) : ∃ p c, v = .slice p l.length c ∧ Ints W (.slice p l.length c) l := by
  obtain ⟨p, c, rfl, h1, h2⟩ := h
  exact ⟨p, c, rfl, p, c, rfl, h1, h2⟩

theorem _root_.Go.RowKit.Below.later {A B C : World} (h : Below A.heap.size A B) (hb : Below B.heap.size B C) : Below A.heap.size A C := h.trans (hb.mono h.size)
def btL (n d : Int) (gs : List Int) : List Met.Pr := if Met.right n d gs then Met.bt n d gs else []
theorem beats_gen {n d E : Int} {v : Value} {gs : List Int} {L : List Met.Pr} {w : World} (hI : Ints w v gs) (hE : lenE n d gs = E) (hL : btL n d gs = L) :
    Calls Try.prog 14 #[mt n d v] w fun ed w' => (∃ u, ed = .returned (.tuple #[u, .int .i64 E]) ∧ Prs w' u L) ∧ Below w.heap.size w w' := by
  subst hE hL
  unfold lenE btL
  cases hr : Met.right n d gs
  · exact beats_wrong hI hr
  · exact beats_right hI hr rfl
theorem refSame_is {n d n' d' : Int} {v u : Value} {xs ys : List Int} {w : World} (h1 : Ints w v xs) (h2 : Ints w u ys) {t : Bool} (h : decide (n = n' ∧ d = d' ∧ xs = ys) = t) :
    Calls Try.prog 19 #[mt n d v, mt n' d' u] w fun ed w' => ed = .returned (.bool t) ∧ Below w.heap.size w w' := by have := refSame5_any n d n' d' v u xs ys w h1 h2; rw [h] at this; exact this
theorem refBeats_gen {n d E : Int} {v : Value} {gs : List Int} {L : List Met.Pr} {w : World} (hI : Ints w v gs) (hE : lenE n d gs = E) (hL : btL n d gs = L) :
    Calls Try.prog 15 #[mt n d v] w fun ed w' => (∃ u, ed = .returned (.tuple #[u, .int .i64 E]) ∧ Prs w' u L) ∧ Below w.heap.size w w' := by
  subst hE hL
  unfold lenE btL
  cases hr : Met.right n d gs
  · exact refBeats_wrong hI hr
  · exact refBeats_right hI hr rfl

/-- Three ratios in one block. -/
def Row3 (B : Nat) (W : World) : Prop := ∀ i : Nat, i < 3 → ∃ r0 r1 : Int, Rat.I64 r0 ∧ Rat.I64 r1 ∧ W.cell? ⟨B, i * 2, none⟩ = some (.int .i64 r0) ∧ W.cell? ⟨B, i * 2 + 1, none⟩ = some (.int .i64 r1)
theorem Row3.later {B : Nat} {W W' : World} (h : Row3 B W) (hb : Below W.heap.size W W') : Row3 B W' := fun i hi =>
  let ⟨r0, r1, i0, i1, c0, c1⟩ := h i hi
  ⟨r0, r1, i0, i1, cell_later hb c0, cell_later hb c1⟩
theorem Row3.mk {B : Nat} {W : World} {a b c d e f : Int} (ia : Rat.I64 a) (ib : Rat.I64 b) (ic : Rat.I64 c) (id : Rat.I64 d) (ie : Rat.I64 e) (if_ : Rat.I64 f) (h0 : W.cell? ⟨B, 0, none⟩ = some (.int .i64 a)) (h1 : W.cell? ⟨B, 1, none⟩ = some (.int .i64 b)) (h2 : W.cell? ⟨B, 2, none⟩ = some (.int .i64 c)) (h3 : W.cell? ⟨B, 3, none⟩ = some (.int .i64 d)) (h4 : W.cell? ⟨B, 4, none⟩ = some (.int .i64 e)) (h5 : W.cell? ⟨B, 5, none⟩ = some (.int .i64 f)) : Row3 B W := by
  intro i hi
  match i, hi with
  | 0, _ => exact ⟨_, _, ia, ib, h0, h1⟩
  | 1, _ => exact ⟨_, _, ic, id, h2, h3⟩
  | 2, _ => exact ⟨_, _, ie, if_, h4, h5⟩
theorem is_i64 {p : Met.Pr} {a D : Int} (h : Met.Is p a D) : Rat.I64 p.1 ∧ Rat.I64 p.2 := by
  have hM := Rat.M_eq
  have h1 := h.r.d1
  have h2 := h.r.dM
  have h3 := h.r.n0
  have h4 := h.r.nM
  exact ⟨i64_small (by omega) (by omega), i64_small (by omega) (by omega)⟩
theorem lenP_i64 (n d : Int) (gs : List Int) : Rat.I64 (lenP n d gs).1 ∧ Rat.I64 (lenP n d gs).2 := by
  unfold lenP
  cases h : Met.right n d gs
  · simp only [Bool.false_eq_true, if_false]
    exact ⟨i64_small (by decide) (by decide), i64_small (by decide) (by decide)⟩
  · exact is_i64 (Met.isRight h).bar

set_option maxRecDepth 100000 in
set_option maxHeartbeats 40000000 in
theorem meterTells_w (a b : Int) (v : Value) (gs : List Int) (a' b' : Int) (v' : Value) (gs' : List Int) (gr : Bool) (t0 t1 n0 n1 k n o : Int) (w : World) (hI : Ints w v gs) (hI' : Ints w v' gs') (ia : Rat.I64 a) (ib : Rat.I64 b) (hgs : ∀ z ∈ gs, Rat.I64 z) (ia' : Rat.I64 a') (ib' : Rat.I64 b') (hgs' : ∀ z ∈ gs', Rat.I64 z) (it0 : Rat.I64 t0) (it1 : Rat.I64 t1) (in0 : Rat.I64 n0) (in1 : Rat.I64 n1) (ik : Rat.I64 k) (inn : Rat.I64 n) (io : Rat.I64 o) : LawHolds 3 #[mt a b v, mt a' b' v', .bool gr, rt t0 t1, rt n0 n1, .int .i64 k, .int .i64 n, .int .i64 o] w := by
  unfold LawHolds
  obtain ⟨px, cx, rfl, hlx, hcx⟩ := hI
  have HX : Hid (Ints w (.slice px gs.length cx) gs) := Lib.hid ⟨px, cx, rfl, hlx, hcx⟩
  obtain ⟨py, cy, rfl, hly, hcy⟩ := hI'
  have HY : Hid (Ints w (.slice py gs'.length cy) gs') := Lib.hid ⟨py, cy, rfl, hly, hcy⟩
  clear hlx hcx hly hcy
  have HGS := Lib.hid hgs
  have HGS' := Lib.hid hgs'
  clear hgs hgs'
  obtain ⟨N, HN⟩ : ∃ N, Hid (mkN a = N) := ⟨_, Lib.hid rfl⟩
  obtain ⟨D, HD⟩ : ∃ D, Hid (mkD b = D) := ⟨_, Lib.hid rfl⟩
  obtain ⟨N', HN'⟩ : ∃ N', Hid (mkN a' = N') := ⟨_, Lib.hid rfl⟩
  obtain ⟨D', HD'⟩ : ∃ D', Hid (mkD b' = D') := ⟨_, Lib.hid rfl⟩
  have hgR := guardR
  have heR := eql_rt
  have hnR := neq_rt
  have hsR := eqR_self
  have hB0 : Below w.heap.size w w := Below.refl _ _
  go_enter Try.func3, Try.ntmps3
  go_wp2_with fail
  refine (awake_any _).mono ?_
  rintro e w1 ⟨rfl, hb1⟩
  have hs1 : Below w.heap.size w w1 := Below.trans (by repeat (first | exact Below.refl _ _ | refine Below.alloc ?_ (by simp <;> omega) _)) (hb1.mono (by simp <;> omega))
  have c_x_0 : w1.cell? ⟨w.heap.size, 0, none⟩ = some (.int .i64 a) := (hb1.cell (by simp <;> omega)).trans (by go_simp)
  have c_x_1 : w1.cell? ⟨w.heap.size, 1, none⟩ = some (.int .i64 b) := (hb1.cell (by simp <;> omega)).trans (by go_simp)
  have c_x_2 : w1.cell? ⟨w.heap.size, 2, none⟩ = some (.slice px gs.length cx) := (hb1.cell (by simp <;> omega)).trans (by go_simp)
  have c_y_0 : w1.cell? ⟨w.heap.size + 1, 0, none⟩ = some (.int .i64 (a')) := (hb1.cell (by simp <;> omega)).trans (by go_simp)
  have c_y_1 : w1.cell? ⟨w.heap.size + 1, 1, none⟩ = some (.int .i64 (b')) := (hb1.cell (by simp <;> omega)).trans (by go_simp)
  have c_y_2 : w1.cell? ⟨w.heap.size + 1, 2, none⟩ = some (.slice py gs'.length cy) := (hb1.cell (by simp <;> omega)).trans (by go_simp)
  have c_t_0 : w1.cell? ⟨w.heap.size + 1 + 1, 0, none⟩ = some (.int .i64 t0) := (hb1.cell (by simp <;> omega)).trans (by go_simp)
  have c_t_1 : w1.cell? ⟨w.heap.size + 1 + 1, 1, none⟩ = some (.int .i64 t1) := (hb1.cell (by simp <;> omega)).trans (by go_simp)
  have c_n_0 : w1.cell? ⟨w.heap.size + 1 + 1 + 1, 0, none⟩ = some (.int .i64 n0) := (hb1.cell (by simp <;> omega)).trans (by go_simp)
  have c_n_1 : w1.cell? ⟨w.heap.size + 1 + 1 + 1, 1, none⟩ = some (.int .i64 n1) := (hb1.cell (by simp <;> omega)).trans (by go_simp)
  have z_n := World.block_lt_of_cell? _ _ c_n_0
  have z_t := World.block_lt_of_cell? _ _ c_t_0
  have z_x := World.block_lt_of_cell? _ _ c_x_0
  have z_y := World.block_lt_of_cell? _ _ c_y_0
  have hB1 := below_two hB0 hs1
  clear hB0 hs1 hb1
  go_wp2_with fail
  have hs2 : Below w1.heap.size w1 w1 := by repeat (first | exact Below.refl _ _ | refine Below.alloc ?_ (by simp <;> omega) _)
  replace c_x_0 := cell_later hs2 c_x_0
  replace c_x_1 := cell_later hs2 c_x_1
  replace c_x_2 := cell_later hs2 c_x_2
  replace c_y_0 := cell_later hs2 c_y_0
  replace c_y_1 := cell_later hs2 c_y_1
  replace c_y_2 := cell_later hs2 c_y_2
  replace c_t_0 := cell_later hs2 c_t_0
  replace c_t_1 := cell_later hs2 c_t_1
  replace c_n_0 := cell_later hs2 c_n_0
  replace c_n_1 := cell_later hs2 c_n_1
  have hB2 := below_two hB1 hs2
  clear hB1 hs2
  have y2_n := z_n
  have y2_t := z_t
  have y2_x := z_x
  have y2_y := z_y
  generalize w1 = w2 at *
  clear z_n
  have z_n := World.block_lt_of_cell? _ _ c_n_0
  clear z_t
  have z_t := World.block_lt_of_cell? _ _ c_t_0
  clear z_x
  have z_x := World.block_lt_of_cell? _ _ c_x_0
  clear z_y
  have z_y := World.block_lt_of_cell? _ _ c_y_0
  go_wp2_with fail
  refine (meter_is HN.out HD.out _ gs _ (HX.out.later hB2) ia ib HGS.out gr).mono ?_
  rintro e w3 ⟨⟨um, rfl, lm, him, hrm, hzm⟩, hb3⟩
  have hs3 := hb3
  replace c_x_0 := cell_later hs3 c_x_0
  replace c_x_1 := cell_later hs3 c_x_1
  replace c_x_2 := cell_later hs3 c_x_2
  replace c_y_0 := cell_later hs3 c_y_0
  replace c_y_1 := cell_later hs3 c_y_1
  replace c_y_2 := cell_later hs3 c_y_2
  replace c_t_0 := cell_later hs3 c_t_0
  replace c_t_1 := cell_later hs3 c_t_1
  replace c_n_0 := cell_later hs3 c_n_0
  replace c_n_1 := cell_later hs3 c_n_1
  clear z_n
  have z_n := World.block_lt_of_cell? _ _ c_n_0
  clear z_t
  have z_t := World.block_lt_of_cell? _ _ c_t_0
  clear z_x
  have z_x := World.block_lt_of_cell? _ _ c_x_0
  clear z_y
  have z_y := World.block_lt_of_cell? _ _ c_y_0
  have hB3 := below_two hB2 hs3
  clear hB2 hs3
  obtain ⟨pm, cm, rfl, hlm, hcm⟩ := him
  have HIm : Hid (Ints _ (.slice pm lm.length cm) lm) := Lib.hid ⟨pm, cm, rfl, hlm, hcm⟩
  have HRm := Lib.hid hrm
  clear hcm hrm
  go_wp2_with fail
  have hs4 : Below w3.heap.size w3 (w3.alloc (.cells #[.int .i64 N, .int .i64 D, .slice pm lm.length cm] 24)) := by repeat (first | exact Below.refl _ _ | refine Below.alloc ?_ (by simp <;> omega) _)
  replace HIm := Lib.hid (HIm.out.later hs4)
  replace c_x_0 := cell_later hs4 c_x_0
  replace c_x_1 := cell_later hs4 c_x_1
  replace c_x_2 := cell_later hs4 c_x_2
  replace c_y_0 := cell_later hs4 c_y_0
  replace c_y_1 := cell_later hs4 c_y_1
  replace c_y_2 := cell_later hs4 c_y_2
  replace c_t_0 := cell_later hs4 c_t_0
  replace c_t_1 := cell_later hs4 c_t_1
  replace c_n_0 := cell_later hs4 c_n_0
  replace c_n_1 := cell_later hs4 c_n_1
  have c_m_0 : (w3.alloc (.cells #[.int .i64 N, .int .i64 D, .slice pm lm.length cm] 24)).cell? ⟨w3.heap.size, 0, none⟩ = some (.int .i64 N) := by go_simp
  have c_m_1 : (w3.alloc (.cells #[.int .i64 N, .int .i64 D, .slice pm lm.length cm] 24)).cell? ⟨w3.heap.size, 1, none⟩ = some (.int .i64 D) := by go_simp
  have c_m_2 : (w3.alloc (.cells #[.int .i64 N, .int .i64 D, .slice pm lm.length cm] 24)).cell? ⟨w3.heap.size, 2, none⟩ = some (.slice pm lm.length cm) := by go_simp
  have hB4 := below_two hB3 hs4
  clear hB3 hs4
  have y4_n := z_n
  have y4_t := z_t
  have y4_x := z_x
  have y4_y := z_y
  generalize (w3.alloc (.cells #[.int .i64 N, .int .i64 D, .slice pm lm.length cm] 24)) = w4 at *
  have z_m := World.block_lt_of_cell? _ _ c_m_0
  clear z_n
  have z_n := World.block_lt_of_cell? _ _ c_n_0
  clear z_t
  have z_t := World.block_lt_of_cell? _ _ c_t_0
  clear z_x
  have z_x := World.block_lt_of_cell? _ _ c_x_0
  clear z_y
  have z_y := World.block_lt_of_cell? _ _ c_y_0
  go_wp2_with fail
  go_region_held3 (fun w' => w'.cell? ⟨w.heap.size, 0, none⟩ = some (.int .i64 a) ∧ w'.cell? ⟨w.heap.size, 1, none⟩ = some (.int .i64 b) ∧ w'.cell? ⟨w.heap.size, 2, none⟩ = some (.slice px gs.length cx) ∧ w'.cell? ⟨w.heap.size + 1, 0, none⟩ = some (.int .i64 (a')) ∧ w'.cell? ⟨w.heap.size + 1, 1, none⟩ = some (.int .i64 (b')) ∧ w'.cell? ⟨w.heap.size + 1, 2, none⟩ = some (.slice py gs'.length cy) ∧ w'.cell? ⟨w.heap.size + 1 + 1, 0, none⟩ = some (.int .i64 t0) ∧ w'.cell? ⟨w.heap.size + 1 + 1, 1, none⟩ = some (.int .i64 t1) ∧ w'.cell? ⟨w.heap.size + 1 + 1 + 1, 0, none⟩ = some (.int .i64 n0) ∧ w'.cell? ⟨w.heap.size + 1 + 1 + 1, 1, none⟩ = some (.int .i64 n1) ∧ w'.cell? ⟨w3.heap.size, 0, none⟩ = some (.int .i64 N) ∧ w'.cell? ⟨w3.heap.size, 1, none⟩ = some (.int .i64 D) ∧ w'.cell? ⟨w3.heap.size, 2, none⟩ = some (.slice pm lm.length cm) ∧ Below w.heap.size w w')
    (((try go_split_ands); refine ⟨?_, ?_, ?_, ?_, ?_, ?_, ?_, ?_, ?_, ?_, ?_, ?_, ?_, ?_⟩ <;> first | with_reducible assumption | (with_reducible refine cell_later hq ?_; with_reducible assumption) | (with_reducible refine below_two ?_ hq; with_reducible assumption) | (with_reducible refine alloc_below ?_; with_reducible assumption) | (with_reducible refine alloc_cell ?_; with_reducible assumption) | with_reducible exact cell_drew c_x_0 | with_reducible exact cell_drew c_x_1 | with_reducible exact cell_drew c_x_2 | with_reducible exact cell_drew c_y_0 | with_reducible exact cell_drew c_y_1 | with_reducible exact cell_drew c_y_2 | with_reducible exact cell_drew c_t_0 | with_reducible exact cell_drew c_t_1 | with_reducible exact cell_drew c_n_0 | with_reducible exact cell_drew c_n_1 | with_reducible exact cell_drew c_m_0 | with_reducible exact cell_drew c_m_1 | with_reducible exact cell_drew c_m_2 | with_reducible exact hB4.drew))
    (first
      | (go_at_call 11; with_reducible refine (meter_is HN'.out HD'.out _ gs' _ (HY.out.later hB4.drew) ia' ib' HGS'.out (!gr)).mono ?_; rintro e w5 ⟨⟨uz, rfl, lz, hiz, hrz, hzz⟩, hq⟩; replace HIm := Lib.hid (HIm.out.later (below_two (Below.refl _ _).drew hq)); obtain ⟨pz, cz, rfl, hiz'⟩ := ints_open hiz; have HIz := Lib.hid hiz'; have HRz := Lib.hid hrz; clear hiz hiz' hrz))
  rename_i hS
  clear c_x_0 c_x_1 c_x_2 c_y_0 c_y_1 c_y_2 c_t_0 c_t_1 c_n_0 c_n_1 c_m_0 c_m_1 c_m_2 hB4 z_m z_n z_t z_x z_y
  obtain ⟨c_x_0, c_x_1, c_x_2, c_y_0, c_y_1, c_y_2, c_t_0, c_t_1, c_n_0, c_n_1, c_m_0, c_m_1, c_m_2, hB5⟩ := hS
  have z_m := World.block_lt_of_cell? _ _ c_m_0
  have z_n := World.block_lt_of_cell? _ _ c_n_0
  have z_t := World.block_lt_of_cell? _ _ c_t_0
  have z_x := World.block_lt_of_cell? _ _ c_x_0
  have z_y := World.block_lt_of_cell? _ _ c_y_0
  have s0 : (w5.alloc (.cells #[.int .i64 a, .int .i64 b, .slice px gs.length cx, .int .i64 N, .int .i64 D, .slice pm lm.length cm, .int .i64 (N'), .int .i64 (D'), .slice pz lz.length cz] 24)).cell? ⟨w5.heap.size, 0, none⟩ = some (.int .i64 a) := by go_simp
  have s1 : (w5.alloc (.cells #[.int .i64 a, .int .i64 b, .slice px gs.length cx, .int .i64 N, .int .i64 D, .slice pm lm.length cm, .int .i64 (N'), .int .i64 (D'), .slice pz lz.length cz] 24)).cell? ⟨w5.heap.size, 1, none⟩ = some (.int .i64 b) := by go_simp
  have s2 : (w5.alloc (.cells #[.int .i64 a, .int .i64 b, .slice px gs.length cx, .int .i64 N, .int .i64 D, .slice pm lm.length cm, .int .i64 (N'), .int .i64 (D'), .slice pz lz.length cz] 24)).cell? ⟨w5.heap.size, 2, none⟩ = some (.slice px gs.length cx) := by go_simp
  have s3 : (w5.alloc (.cells #[.int .i64 a, .int .i64 b, .slice px gs.length cx, .int .i64 N, .int .i64 D, .slice pm lm.length cm, .int .i64 (N'), .int .i64 (D'), .slice pz lz.length cz] 24)).cell? ⟨w5.heap.size, 3, none⟩ = some (.int .i64 N) := by go_simp
  have s4 : (w5.alloc (.cells #[.int .i64 a, .int .i64 b, .slice px gs.length cx, .int .i64 N, .int .i64 D, .slice pm lm.length cm, .int .i64 (N'), .int .i64 (D'), .slice pz lz.length cz] 24)).cell? ⟨w5.heap.size, 4, none⟩ = some (.int .i64 D) := by go_simp
  have s5 : (w5.alloc (.cells #[.int .i64 a, .int .i64 b, .slice px gs.length cx, .int .i64 N, .int .i64 D, .slice pm lm.length cm, .int .i64 (N'), .int .i64 (D'), .slice pz lz.length cz] 24)).cell? ⟨w5.heap.size, 5, none⟩ = some (.slice pm lm.length cm) := by go_simp
  have s6 : (w5.alloc (.cells #[.int .i64 a, .int .i64 b, .slice px gs.length cx, .int .i64 N, .int .i64 D, .slice pm lm.length cm, .int .i64 (N'), .int .i64 (D'), .slice pz lz.length cz] 24)).cell? ⟨w5.heap.size, 6, none⟩ = some (.int .i64 (N')) := by go_simp
  have s7 : (w5.alloc (.cells #[.int .i64 a, .int .i64 b, .slice px gs.length cx, .int .i64 N, .int .i64 D, .slice pm lm.length cm, .int .i64 (N'), .int .i64 (D'), .slice pz lz.length cz] 24)).cell? ⟨w5.heap.size, 7, none⟩ = some (.int .i64 (D')) := by go_simp
  have s8 : (w5.alloc (.cells #[.int .i64 a, .int .i64 b, .slice px gs.length cx, .int .i64 N, .int .i64 D, .slice pm lm.length cm, .int .i64 (N'), .int .i64 (D'), .slice pz lz.length cz] 24)).cell? ⟨w5.heap.size, 8, none⟩ = some (.slice pz lz.length cz) := by go_simp
  have HIm6 : Hid (Ints (w5.alloc (.cells #[.int .i64 a, .int .i64 b, .slice px gs.length cx, .int .i64 N, .int .i64 D, .slice pm lm.length cm, .int .i64 (N'), .int .i64 (D'), .slice pz lz.length cz] 24)) (.slice pm lm.length cm) lm) := Lib.hid (HIm.out.later (alloc_below (Below.refl _ _)))
  have HIz6 : Hid (Ints (w5.alloc (.cells #[.int .i64 a, .int .i64 b, .slice px gs.length cx, .int .i64 N, .int .i64 D, .slice pm lm.length cm, .int .i64 (N'), .int .i64 (D'), .slice pz lz.length cz] 24)) (.slice pz lz.length cz) lz) := Lib.hid (HIz.out.later (alloc_below (Below.refl _ _)))
  have HIx6 : Hid (Ints (w5.alloc (.cells #[.int .i64 a, .int .i64 b, .slice px gs.length cx, .int .i64 N, .int .i64 D, .slice pm lm.length cm, .int .i64 (N'), .int .i64 (D'), .slice pz lz.length cz] 24)) (.slice px gs.length cx) gs) := Lib.hid (HX.out.later hB5)
  have HIy6 : Hid (Ints (w5.alloc (.cells #[.int .i64 a, .int .i64 b, .slice px gs.length cx, .int .i64 N, .int .i64 D, .slice pm lm.length cm, .int .i64 (N'), .int .i64 (D'), .slice pz lz.length cz] 24)) (.slice py gs'.length cy) gs') := Lib.hid (HY.out.later hB5)
  have hB9 := hB5
  clear HIm HIz hB5 z_x z_y z_t z_n z_m
  generalize (w5.alloc (.cells #[.int .i64 a, .int .i64 b, .slice px gs.length cx, .int .i64 N, .int .i64 D, .slice pm lm.length cm, .int .i64 (N'), .int .i64 (D'), .slice pz lz.length cz] 24)) = w9 at *
  have HROW : Hid (∀ i : Nat, i < 3 → ∃ (mn md : Int) (pv : Option Addr) (cv : Nat) (ml : List Int), w9.cell? ⟨w5.heap.size, i * 3, none⟩ = some (.int .i64 mn) ∧ w9.cell? ⟨w5.heap.size, i * 3 + 1, none⟩ = some (.int .i64 md) ∧ w9.cell? ⟨w5.heap.size, i * 3 + 2, none⟩ = some (.slice pv ml.length cv) ∧ Ints w9 (.slice pv ml.length cv) ml) := Lib.hid (by
    intro i hi
    match i, hi with
    | 0, _ => exact ⟨_, _, _, _, _, s0, s1, s2, HIx6.out⟩
    | 1, _ => exact ⟨_, _, _, _, _, s3, s4, s5, HIm6.out⟩
    | 2, _ => exact ⟨_, _, _, _, _, s6, s7, s8, HIz6.out⟩)
  clear s0 s1 s2 s3 s4 s5 s6 s7 s8 HIx6 HIz6
  go_wp2_with fail
  go_loopw [53] (fun v wr => ∃ i : Nat, i ≤ 3 ∧ v = .int .i64 (i : Int) ∧ Below w9.heap.size w9 wr) (fun v _ => 3 - (intOf v).toNat)
  case atStart => exact ⟨0, by omega, rfl, Below.refl _ _⟩
  case round =>
    obtain ⟨i, hi3, rfl, hBr⟩ := hrel
    obtain ⟨w20, hwo⟩ : ∃ x, x = wr := ⟨_, rfl⟩
    subst hwo
    by_cases hlt : i < 3
    · obtain ⟨mn, md, pv, cv, ml, r0, r1, r2, hIr⟩ := HROW.out i hlt
      have HIr := Lib.hid hIr
      clear hIr
      replace r0 := cell_later hBr r0
      replace r1 := cell_later hBr r1
      replace r2 := cell_later hBr r2
      have hlt' : (i : Int) < 3 := by omega
      have zr := World.block_lt_of_cell? _ _ r0
      have hB20 := below_two hB9 hBr
      have HBR := Lib.hid hBr
      clear c_x_0
      clear c_x_1
      clear c_x_2
      replace c_y_0 := cell_later hBr c_y_0
      replace c_y_1 := cell_later hBr c_y_1
      replace c_y_2 := cell_later hBr c_y_2
      replace c_t_0 := cell_later hBr c_t_0
      replace c_t_1 := cell_later hBr c_t_1
      replace c_n_0 := cell_later hBr c_n_0
      replace c_n_1 := cell_later hBr c_n_1
      replace c_m_0 := cell_later hBr c_m_0
      replace c_m_1 := cell_later hBr c_m_1
      replace c_m_2 := cell_later hBr c_m_2
      replace HIm6 := Lib.hid (HIm6.out.later hBr)
      replace HIy6 := Lib.hid (HIy6.out.later hBr)
      replace HIr := Lib.hid (HIr.out.later hBr)
      clear hBr
      obtain ⟨⟨l0, l1⟩, HLX⟩ : ∃ X, Hid (lenP mn md ml = X) := ⟨_, Lib.hid rfl⟩
      obtain ⟨e5, HLE⟩ : ∃ E, Hid (lenE mn md ml = E) := ⟨_, Lib.hid rfl⟩
      obtain ⟨rr, HRR⟩ : ∃ r, Hid (Met.right mn md ml = r) := ⟨_, Lib.hid rfl⟩
      obtain ⟨BL, HBL⟩ : ∃ L, Hid (btL mn md ml = L) := ⟨_, Lib.hid rfl⟩
      obtain ⟨f1, HF1⟩ : ∃ f, Hid (decide (mn = a' ∧ md = b' ∧ ml = gs') = f) := ⟨_, Lib.hid rfl⟩
      obtain ⟨f2, HF2⟩ : ∃ f, Hid (decide (N = mn ∧ D = md ∧ lm = ml) = f) := ⟨_, Lib.hid rfl⟩
      go_wp2_with fail
      have hs21 : Below w20.heap.size w20 (w20.alloc (.cells #[.int .i64 mn, .int .i64 md, .slice pv ml.length cv] 24)) := by repeat (first | exact Below.refl _ _ | refine Below.alloc ?_ (by simp <;> omega) _)
      replace HIm6 := Lib.hid (HIm6.out.later hs21)
      replace HIy6 := Lib.hid (HIy6.out.later hs21)
      replace HIr := Lib.hid (HIr.out.later hs21)
      replace HBR := Lib.hid (HBR.out.later hs21)
      replace c_y_0 := cell_later hs21 c_y_0
      replace c_y_1 := cell_later hs21 c_y_1
      replace c_y_2 := cell_later hs21 c_y_2
      replace c_t_0 := cell_later hs21 c_t_0
      replace c_t_1 := cell_later hs21 c_t_1
      replace c_n_0 := cell_later hs21 c_n_0
      replace c_n_1 := cell_later hs21 c_n_1
      replace c_m_0 := cell_later hs21 c_m_0
      replace c_m_1 := cell_later hs21 c_m_1
      replace c_m_2 := cell_later hs21 c_m_2
      have c_q_0 : (w20.alloc (.cells #[.int .i64 mn, .int .i64 md, .slice pv ml.length cv] 24)).cell? ⟨w20.heap.size, 0, none⟩ = some (.int .i64 mn) := by go_simp
      have c_q_1 : (w20.alloc (.cells #[.int .i64 mn, .int .i64 md, .slice pv ml.length cv] 24)).cell? ⟨w20.heap.size, 1, none⟩ = some (.int .i64 md) := by go_simp
      have c_q_2 : (w20.alloc (.cells #[.int .i64 mn, .int .i64 md, .slice pv ml.length cv] 24)).cell? ⟨w20.heap.size, 2, none⟩ = some (.slice pv ml.length cv) := by go_simp
      have hB21 := below_two hB20 hs21
      clear hB20 hs21
      generalize (w20.alloc (.cells #[.int .i64 mn, .int .i64 md, .slice pv ml.length cv] 24)) = w21 at *
      have z_m := World.block_lt_of_cell? _ _ c_m_0
      have z_n := World.block_lt_of_cell? _ _ c_n_0
      have z_q := World.block_lt_of_cell? _ _ c_q_0
      have z_t := World.block_lt_of_cell? _ _ c_t_0
      have z_y := World.block_lt_of_cell? _ _ c_y_0
      clear r0 r1 r2 zr
      go_wp2_with fail
      refine (mlength_any mn md _ ml _ HIr.out).mono ?_
      rintro e w22 ⟨rfl, hb22⟩
      have hs22 := hb22
      replace HIm6 := Lib.hid (HIm6.out.later hs22)
      replace HIy6 := Lib.hid (HIy6.out.later hs22)
      replace HIr := Lib.hid (HIr.out.later hs22)
      replace HBR := Lib.hid (HBR.out.later hs22)
      replace c_y_0 := cell_later hs22 c_y_0
      replace c_y_1 := cell_later hs22 c_y_1
      replace c_y_2 := cell_later hs22 c_y_2
      replace c_t_0 := cell_later hs22 c_t_0
      replace c_t_1 := cell_later hs22 c_t_1
      replace c_n_0 := cell_later hs22 c_n_0
      replace c_n_1 := cell_later hs22 c_n_1
      replace c_m_0 := cell_later hs22 c_m_0
      replace c_m_1 := cell_later hs22 c_m_1
      replace c_m_2 := cell_later hs22 c_m_2
      replace c_q_0 := cell_later hs22 c_q_0
      replace c_q_1 := cell_later hs22 c_q_1
      replace c_q_2 := cell_later hs22 c_q_2
      clear z_m
      have z_m := World.block_lt_of_cell? _ _ c_m_0
      clear z_n
      have z_n := World.block_lt_of_cell? _ _ c_n_0
      clear z_q
      have z_q := World.block_lt_of_cell? _ _ c_q_0
      clear z_t
      have z_t := World.block_lt_of_cell? _ _ c_t_0
      clear z_y
      have z_y := World.block_lt_of_cell? _ _ c_y_0
      have hB22 := below_two hB21 hs22
      clear hB21 hs22
      rw [HLX.out, HLE.out]
      dsimp only
      go_wp2_with fail
      have hs23 : Below w22.heap.size w22 (w22.alloc (.cells #[.int .i64 l0, .int .i64 l1] 26)) := by repeat (first | exact Below.refl _ _ | refine Below.alloc ?_ (by simp <;> omega) _)
      replace HIm6 := Lib.hid (HIm6.out.later hs23)
      replace HIy6 := Lib.hid (HIy6.out.later hs23)
      replace HIr := Lib.hid (HIr.out.later hs23)
      replace HBR := Lib.hid (HBR.out.later hs23)
      replace c_y_0 := cell_later hs23 c_y_0
      replace c_y_1 := cell_later hs23 c_y_1
      replace c_y_2 := cell_later hs23 c_y_2
      replace c_t_0 := cell_later hs23 c_t_0
      replace c_t_1 := cell_later hs23 c_t_1
      replace c_n_0 := cell_later hs23 c_n_0
      replace c_n_1 := cell_later hs23 c_n_1
      replace c_m_0 := cell_later hs23 c_m_0
      replace c_m_1 := cell_later hs23 c_m_1
      replace c_m_2 := cell_later hs23 c_m_2
      replace c_q_0 := cell_later hs23 c_q_0
      replace c_q_1 := cell_later hs23 c_q_1
      replace c_q_2 := cell_later hs23 c_q_2
      have c_l_0 : (w22.alloc (.cells #[.int .i64 l0, .int .i64 l1] 26)).cell? ⟨w22.heap.size, 0, none⟩ = some (.int .i64 l0) := by go_simp
      have c_l_1 : (w22.alloc (.cells #[.int .i64 l0, .int .i64 l1] 26)).cell? ⟨w22.heap.size, 1, none⟩ = some (.int .i64 l1) := by go_simp
      have hB23 := below_two hB22 hs23
      clear hB22 hs23
      have y23_m := z_m
      have y23_n := z_n
      have y23_q := z_q
      have y23_t := z_t
      have y23_y := z_y
      generalize (w22.alloc (.cells #[.int .i64 l0, .int .i64 l1] 26)) = w23 at *
      have z_l := World.block_lt_of_cell? _ _ c_l_0
      clear z_m
      have z_m := World.block_lt_of_cell? _ _ c_m_0
      clear z_n
      have z_n := World.block_lt_of_cell? _ _ c_n_0
      clear z_q
      have z_q := World.block_lt_of_cell? _ _ c_q_0
      clear z_t
      have z_t := World.block_lt_of_cell? _ _ c_t_0
      clear z_y
      have z_y := World.block_lt_of_cell? _ _ c_y_0
      go_wp2_with fail
      refine (refLength_any mn md _ ml _ HIr.out).mono ?_
      rintro e w24 ⟨rfl, hb24⟩
      have hs24 := hb24
      replace HIm6 := Lib.hid (HIm6.out.later hs24)
      replace HIy6 := Lib.hid (HIy6.out.later hs24)
      replace HIr := Lib.hid (HIr.out.later hs24)
      replace HBR := Lib.hid (HBR.out.later hs24)
      replace c_y_0 := cell_later hs24 c_y_0
      replace c_y_1 := cell_later hs24 c_y_1
      replace c_y_2 := cell_later hs24 c_y_2
      replace c_t_0 := cell_later hs24 c_t_0
      replace c_t_1 := cell_later hs24 c_t_1
      replace c_n_0 := cell_later hs24 c_n_0
      replace c_n_1 := cell_later hs24 c_n_1
      replace c_m_0 := cell_later hs24 c_m_0
      replace c_m_1 := cell_later hs24 c_m_1
      replace c_m_2 := cell_later hs24 c_m_2
      replace c_q_0 := cell_later hs24 c_q_0
      replace c_q_1 := cell_later hs24 c_q_1
      replace c_q_2 := cell_later hs24 c_q_2
      replace c_l_0 := cell_later hs24 c_l_0
      replace c_l_1 := cell_later hs24 c_l_1
      clear z_l
      have z_l := World.block_lt_of_cell? _ _ c_l_0
      clear z_m
      have z_m := World.block_lt_of_cell? _ _ c_m_0
      clear z_n
      have z_n := World.block_lt_of_cell? _ _ c_n_0
      clear z_q
      have z_q := World.block_lt_of_cell? _ _ c_q_0
      clear z_t
      have z_t := World.block_lt_of_cell? _ _ c_t_0
      clear z_y
      have z_y := World.block_lt_of_cell? _ _ c_y_0
      have hB24 := below_two hB23 hs24
      clear hB23 hs24
      rw [HLX.out, HLE.out]
      dsimp only
      go_wp2_with fail
      have hs25 : Below w24.heap.size w24 (w24.alloc (.cells #[.int .i64 l0, .int .i64 l1] 26)) := by repeat (first | exact Below.refl _ _ | refine Below.alloc ?_ (by simp <;> omega) _)
      replace HIm6 := Lib.hid (HIm6.out.later hs25)
      replace HIy6 := Lib.hid (HIy6.out.later hs25)
      replace HIr := Lib.hid (HIr.out.later hs25)
      replace HBR := Lib.hid (HBR.out.later hs25)
      replace c_y_0 := cell_later hs25 c_y_0
      replace c_y_1 := cell_later hs25 c_y_1
      replace c_y_2 := cell_later hs25 c_y_2
      replace c_t_0 := cell_later hs25 c_t_0
      replace c_t_1 := cell_later hs25 c_t_1
      replace c_n_0 := cell_later hs25 c_n_0
      replace c_n_1 := cell_later hs25 c_n_1
      replace c_m_0 := cell_later hs25 c_m_0
      replace c_m_1 := cell_later hs25 c_m_1
      replace c_m_2 := cell_later hs25 c_m_2
      replace c_q_0 := cell_later hs25 c_q_0
      replace c_q_1 := cell_later hs25 c_q_1
      replace c_q_2 := cell_later hs25 c_q_2
      replace c_l_0 := cell_later hs25 c_l_0
      replace c_l_1 := cell_later hs25 c_l_1
      have c_f_0 : (w24.alloc (.cells #[.int .i64 l0, .int .i64 l1] 26)).cell? ⟨w24.heap.size, 0, none⟩ = some (.int .i64 l0) := by go_simp
      have c_f_1 : (w24.alloc (.cells #[.int .i64 l0, .int .i64 l1] 26)).cell? ⟨w24.heap.size, 1, none⟩ = some (.int .i64 l1) := by go_simp
      have hB25 := below_two hB24 hs25
      clear hB24 hs25
      have y25_l := z_l
      have y25_m := z_m
      have y25_n := z_n
      have y25_q := z_q
      have y25_t := z_t
      have y25_y := z_y
      generalize (w24.alloc (.cells #[.int .i64 l0, .int .i64 l1] 26)) = w25 at *
      have z_f := World.block_lt_of_cell? _ _ c_f_0
      clear z_l
      have z_l := World.block_lt_of_cell? _ _ c_l_0
      clear z_m
      have z_m := World.block_lt_of_cell? _ _ c_m_0
      clear z_n
      have z_n := World.block_lt_of_cell? _ _ c_n_0
      clear z_q
      have z_q := World.block_lt_of_cell? _ _ c_q_0
      clear z_t
      have z_t := World.block_lt_of_cell? _ _ c_t_0
      clear z_y
      have z_y := World.block_lt_of_cell? _ _ c_y_0
      go_wp2_with fail
      refine (beats_gen HIr.out HLE.out HBL.out).mono ?_
      rintro e w26 ⟨⟨u1, rfl, hP1⟩, hb26⟩
      have hs26 := hb26
      replace HIm6 := Lib.hid (HIm6.out.later hs26)
      replace HIy6 := Lib.hid (HIy6.out.later hs26)
      replace HIr := Lib.hid (HIr.out.later hs26)
      replace HBR := Lib.hid (HBR.out.later hs26)
      replace c_y_0 := cell_later hs26 c_y_0
      replace c_y_1 := cell_later hs26 c_y_1
      replace c_y_2 := cell_later hs26 c_y_2
      replace c_t_0 := cell_later hs26 c_t_0
      replace c_t_1 := cell_later hs26 c_t_1
      replace c_n_0 := cell_later hs26 c_n_0
      replace c_n_1 := cell_later hs26 c_n_1
      replace c_m_0 := cell_later hs26 c_m_0
      replace c_m_1 := cell_later hs26 c_m_1
      replace c_m_2 := cell_later hs26 c_m_2
      replace c_q_0 := cell_later hs26 c_q_0
      replace c_q_1 := cell_later hs26 c_q_1
      replace c_q_2 := cell_later hs26 c_q_2
      replace c_l_0 := cell_later hs26 c_l_0
      replace c_l_1 := cell_later hs26 c_l_1
      replace c_f_0 := cell_later hs26 c_f_0
      replace c_f_1 := cell_later hs26 c_f_1
      clear z_f
      have z_f := World.block_lt_of_cell? _ _ c_f_0
      clear z_l
      have z_l := World.block_lt_of_cell? _ _ c_l_0
      clear z_m
      have z_m := World.block_lt_of_cell? _ _ c_m_0
      clear z_n
      have z_n := World.block_lt_of_cell? _ _ c_n_0
      clear z_q
      have z_q := World.block_lt_of_cell? _ _ c_q_0
      clear z_t
      have z_t := World.block_lt_of_cell? _ _ c_t_0
      clear z_y
      have z_y := World.block_lt_of_cell? _ _ c_y_0
      have hB26 := below_two hB25 hs26
      clear hB25 hs26
      have HP1 := Lib.hid hP1
      clear hP1
      go_wp2_with fail
      refine (refBeats_gen HIr.out HLE.out HBL.out).mono ?_
      rintro e w27 ⟨⟨u2, rfl, hP2⟩, hb27⟩
      have hs27 := hb27
      replace HIm6 := Lib.hid (HIm6.out.later hs27)
      replace HIy6 := Lib.hid (HIy6.out.later hs27)
      replace HIr := Lib.hid (HIr.out.later hs27)
      replace HBR := Lib.hid (HBR.out.later hs27)
      replace HP1 := Lib.hid (HP1.out.later hs27)
      replace c_y_0 := cell_later hs27 c_y_0
      replace c_y_1 := cell_later hs27 c_y_1
      replace c_y_2 := cell_later hs27 c_y_2
      replace c_t_0 := cell_later hs27 c_t_0
      replace c_t_1 := cell_later hs27 c_t_1
      replace c_n_0 := cell_later hs27 c_n_0
      replace c_n_1 := cell_later hs27 c_n_1
      replace c_m_0 := cell_later hs27 c_m_0
      replace c_m_1 := cell_later hs27 c_m_1
      replace c_m_2 := cell_later hs27 c_m_2
      replace c_q_0 := cell_later hs27 c_q_0
      replace c_q_1 := cell_later hs27 c_q_1
      replace c_q_2 := cell_later hs27 c_q_2
      replace c_l_0 := cell_later hs27 c_l_0
      replace c_l_1 := cell_later hs27 c_l_1
      replace c_f_0 := cell_later hs27 c_f_0
      replace c_f_1 := cell_later hs27 c_f_1
      clear z_f
      have z_f := World.block_lt_of_cell? _ _ c_f_0
      clear z_l
      have z_l := World.block_lt_of_cell? _ _ c_l_0
      clear z_m
      have z_m := World.block_lt_of_cell? _ _ c_m_0
      clear z_n
      have z_n := World.block_lt_of_cell? _ _ c_n_0
      clear z_q
      have z_q := World.block_lt_of_cell? _ _ c_q_0
      clear z_t
      have z_t := World.block_lt_of_cell? _ _ c_t_0
      clear z_y
      have z_y := World.block_lt_of_cell? _ _ c_y_0
      have hB27 := below_two hB26 hs27
      clear hB26 hs27
      have HP2 := Lib.hid hP2
      clear hP2
      have b1 : (rr != rr) = false := by simp
      have b2 : (f1 != f1) = false := by simp
      have b3 : (f2 != f2) = false := by simp
      have b4 : (e5 != e5) = false := by simp
      go_wp2_with fail
      have QB : Hid (∀ dd os, Below w.heap.size w (Go.Sort.grow (redrawn w27 dd) os)) := Lib.hid (fun dd os => below_two hB27 (below_regrown w27 dd os))
      have g_c_y_0 := fun dd os => cell_regrown c_y_0 dd os
      have g_c_y_1 := fun dd os => cell_regrown c_y_1 dd os
      have g_c_y_2 := fun dd os => cell_regrown c_y_2 dd os
      have g_c_t_0 := fun dd os => cell_regrown c_t_0 dd os
      have g_c_t_1 := fun dd os => cell_regrown c_t_1 dd os
      have g_c_n_0 := fun dd os => cell_regrown c_n_0 dd os
      have g_c_n_1 := fun dd os => cell_regrown c_n_1 dd os
      have g_c_m_0 := fun dd os => cell_regrown c_m_0 dd os
      have g_c_m_1 := fun dd os => cell_regrown c_m_1 dd os
      have g_c_m_2 := fun dd os => cell_regrown c_m_2 dd os
      have g_c_q_0 := fun dd os => cell_regrown c_q_0 dd os
      have g_c_q_1 := fun dd os => cell_regrown c_q_1 dd os
      have g_c_q_2 := fun dd os => cell_regrown c_q_2 dd os
      have g_c_l_0 := fun dd os => cell_regrown c_l_0 dd os
      have g_c_l_1 := fun dd os => cell_regrown c_l_1 dd os
      have g_c_f_0 := fun dd os => cell_regrown c_f_0 dd os
      have g_c_f_1 := fun dd os => cell_regrown c_f_1 dd os
      have q0 : Hid (∀ dd os, Calls Try.prog 16 #[mt mn md (.slice pv ml.length cv)] (Go.Sort.grow (redrawn w27 dd) os) fun e w'' => e = .returned (.bool rr) ∧ ∃ p : Regrown, w'' = Go.Sort.grow (redrawn w27 p.d) p.os) := Lib.hid (fun dd os => Calls.regrown_of (mright_is (HIr.out.later (below_regrown w27 dd os)) HRR.out))
      have q1 : Hid (∀ dd os, Calls Try.prog 17 #[mt mn md (.slice pv ml.length cv)] (Go.Sort.grow (redrawn w27 dd) os) fun e w'' => e = .returned (.bool rr) ∧ ∃ p : Regrown, w'' = Go.Sort.grow (redrawn w27 p.d) p.os) := Lib.hid (fun dd os => Calls.regrown_of (refRight5_is (HIr.out.later (below_regrown w27 dd os)) HRR.out))
      have q2 : Hid (∀ dd os, Calls Try.prog 18 #[mt mn md (.slice pv ml.length cv), mt a' b' (.slice py gs'.length cy)] (Go.Sort.grow (redrawn w27 dd) os) fun e w'' => e = .returned (.bool f1) ∧ ∃ p : Regrown, w'' = Go.Sort.grow (redrawn w27 p.d) p.os) := Lib.hid (fun dd os => Calls.regrown_of (same_is (HIr.out.later (below_regrown w27 dd os)) (HIy6.out.later (below_regrown w27 dd os)) HF1.out))
      have q3 : Hid (∀ dd os, Calls Try.prog 19 #[mt mn md (.slice pv ml.length cv), mt a' b' (.slice py gs'.length cy)] (Go.Sort.grow (redrawn w27 dd) os) fun e w'' => e = .returned (.bool f1) ∧ ∃ p : Regrown, w'' = Go.Sort.grow (redrawn w27 p.d) p.os) := Lib.hid (fun dd os => Calls.regrown_of (refSame_is (HIr.out.later (below_regrown w27 dd os)) (HIy6.out.later (below_regrown w27 dd os)) HF1.out))
      have q4 : Hid (∀ dd os, Calls Try.prog 18 #[mt N D (.slice pm lm.length cm), mt mn md (.slice pv ml.length cv)] (Go.Sort.grow (redrawn w27 dd) os) fun e w'' => e = .returned (.bool f2) ∧ ∃ p : Regrown, w'' = Go.Sort.grow (redrawn w27 p.d) p.os) := Lib.hid (fun dd os => Calls.regrown_of (same_is (HIm6.out.later (below_regrown w27 dd os)) (HIr.out.later (below_regrown w27 dd os)) HF2.out))
      have q5 : Hid (∀ dd os, Calls Try.prog 19 #[mt N D (.slice pm lm.length cm), mt mn md (.slice pv ml.length cv)] (Go.Sort.grow (redrawn w27 dd) os) fun e w'' => e = .returned (.bool f2) ∧ ∃ p : Regrown, w'' = Go.Sort.grow (redrawn w27 p.d) p.os) := Lib.hid (fun dd os => Calls.regrown_of (refSame_is (HIm6.out.later (below_regrown w27 dd os)) (HIr.out.later (below_regrown w27 dd os)) HF2.out))
      have q6 : Hid (∀ dd os, Calls Try.prog 20 #[u1, u2] (Go.Sort.grow (redrawn w27 dd) os) fun e w'' => e = .returned (.bool true) ∧ ∃ p : Regrown, w'' = Go.Sort.grow (redrawn w27 p.d) p.os) := Lib.hid (fun dd os => Calls.regrown_of (ratios_is (HP1.out.later (below_regrown w27 dd os)) (HP2.out.later (below_regrown w27 dd os)) (t := true) (by simp)))
      refine wp_region_quiet_below (by kernel_rfl) (by kernel_rfl) ?_
      repeat (go_big_quiet_step (first | (go_at_call 16; with_reducible exact q0.out _ _) | (go_at_call 17; with_reducible exact q1.out _ _) | (go_at_call 18; with_reducible exact q2.out _ _) | (go_at_call 19; with_reducible exact q3.out _ _) | (go_at_call 18; with_reducible exact q4.out _ _) | (go_at_call 19; with_reducible exact q5.out _ _) | (go_at_call 20; with_reducible exact q6.out _ _)))
      refine wpQuiet_nil ?_
      intro _ hw'
      obtain ⟨⟨dq, osq⟩, hw''⟩ := hw'
      subst hw''
      replace HIm6 := Lib.hid (HIm6.out.later (below_regrown w27 dq osq))
      replace HIy6 := Lib.hid (HIy6.out.later (below_regrown w27 dq osq))
      replace HIr := Lib.hid (HIr.out.later (below_regrown w27 dq osq))
      replace HBR := Lib.hid (HBR.out.later (below_regrown w27 dq osq))
      replace HP1 := Lib.hid (HP1.out.later (below_regrown w27 dq osq))
      replace HP2 := Lib.hid (HP2.out.later (below_regrown w27 dq osq))
      replace c_y_0 := g_c_y_0 dq osq
      clear g_c_y_0
      replace c_y_1 := g_c_y_1 dq osq
      clear g_c_y_1
      replace c_y_2 := g_c_y_2 dq osq
      clear g_c_y_2
      replace c_t_0 := g_c_t_0 dq osq
      clear g_c_t_0
      replace c_t_1 := g_c_t_1 dq osq
      clear g_c_t_1
      replace c_n_0 := g_c_n_0 dq osq
      clear g_c_n_0
      replace c_n_1 := g_c_n_1 dq osq
      clear g_c_n_1
      replace c_m_0 := g_c_m_0 dq osq
      clear g_c_m_0
      replace c_m_1 := g_c_m_1 dq osq
      clear g_c_m_1
      replace c_m_2 := g_c_m_2 dq osq
      clear g_c_m_2
      replace c_q_0 := g_c_q_0 dq osq
      clear g_c_q_0
      replace c_q_1 := g_c_q_1 dq osq
      clear g_c_q_1
      replace c_q_2 := g_c_q_2 dq osq
      clear g_c_q_2
      replace c_l_0 := g_c_l_0 dq osq
      clear g_c_l_0
      replace c_l_1 := g_c_l_1 dq osq
      clear g_c_l_1
      replace c_f_0 := g_c_f_0 dq osq
      clear g_c_f_0
      replace c_f_1 := g_c_f_1 dq osq
      clear g_c_f_1
      clear q0
      clear q1
      clear q2
      clear q3
      clear q4
      clear q5
      clear q6
      have hB28 := QB.out dq osq
      clear QB hB27 z_f z_l z_m z_n z_q z_t z_y
      generalize Go.Sort.grow (redrawn w27 dq) osq = w28 at *
      have z_f := World.block_lt_of_cell? _ _ c_f_0
      have z_l := World.block_lt_of_cell? _ _ c_l_0
      have z_m := World.block_lt_of_cell? _ _ c_m_0
      have z_n := World.block_lt_of_cell? _ _ c_n_0
      have z_q := World.block_lt_of_cell? _ _ c_q_0
      have z_t := World.block_lt_of_cell? _ _ c_t_0
      have z_y := World.block_lt_of_cell? _ _ c_y_0
      obtain ⟨⟨y0, y1⟩, HPK⟩ : ∃ X, Hid (Met.of (mkK N k o) (D * mkS o) = X) := ⟨_, Lib.hid rfl⟩
      go_wp2_with fail
      go_region_held3 (fun w' => w'.cell? ⟨w.heap.size + 1, 0, none⟩ = some (.int .i64 (a')) ∧ w'.cell? ⟨w.heap.size + 1, 1, none⟩ = some (.int .i64 (b')) ∧ w'.cell? ⟨w.heap.size + 1, 2, none⟩ = some (.slice py gs'.length cy) ∧ w'.cell? ⟨w.heap.size + 1 + 1, 0, none⟩ = some (.int .i64 t0) ∧ w'.cell? ⟨w.heap.size + 1 + 1, 1, none⟩ = some (.int .i64 t1) ∧ w'.cell? ⟨w.heap.size + 1 + 1 + 1, 0, none⟩ = some (.int .i64 n0) ∧ w'.cell? ⟨w.heap.size + 1 + 1 + 1, 1, none⟩ = some (.int .i64 n1) ∧ w'.cell? ⟨w3.heap.size, 0, none⟩ = some (.int .i64 N) ∧ w'.cell? ⟨w3.heap.size, 1, none⟩ = some (.int .i64 D) ∧ w'.cell? ⟨w3.heap.size, 2, none⟩ = some (.slice pm lm.length cm) ∧ w'.cell? ⟨w20.heap.size, 0, none⟩ = some (.int .i64 mn) ∧ w'.cell? ⟨w20.heap.size, 1, none⟩ = some (.int .i64 md) ∧ w'.cell? ⟨w20.heap.size, 2, none⟩ = some (.slice pv ml.length cv) ∧ w'.cell? ⟨w22.heap.size, 0, none⟩ = some (.int .i64 l0) ∧ w'.cell? ⟨w22.heap.size, 1, none⟩ = some (.int .i64 l1) ∧ w'.cell? ⟨w24.heap.size, 0, none⟩ = some (.int .i64 l0) ∧ w'.cell? ⟨w24.heap.size, 1, none⟩ = some (.int .i64 l1) ∧ Below w.heap.size w w')
        (((try go_split_ands); refine ⟨?_, ?_, ?_, ?_, ?_, ?_, ?_, ?_, ?_, ?_, ?_, ?_, ?_, ?_, ?_, ?_, ?_, ?_⟩ <;> first | with_reducible assumption | (with_reducible refine cell_later hq ?_; with_reducible assumption) | (with_reducible refine below_two ?_ hq; with_reducible assumption) | (with_reducible refine alloc_below ?_; with_reducible assumption) | (with_reducible refine alloc_cell ?_; with_reducible assumption) | with_reducible exact cell_drew c_y_0 | with_reducible exact cell_drew c_y_1 | with_reducible exact cell_drew c_y_2 | with_reducible exact cell_drew c_t_0 | with_reducible exact cell_drew c_t_1 | with_reducible exact cell_drew c_n_0 | with_reducible exact cell_drew c_n_1 | with_reducible exact cell_drew c_m_0 | with_reducible exact cell_drew c_m_1 | with_reducible exact cell_drew c_m_2 | with_reducible exact cell_drew c_q_0 | with_reducible exact cell_drew c_q_1 | with_reducible exact cell_drew c_q_2 | with_reducible exact cell_drew c_l_0 | with_reducible exact cell_drew c_l_1 | with_reducible exact cell_drew c_f_0 | with_reducible exact cell_drew c_f_1 | with_reducible exact hB28.drew))
        (first
          | (go_at_call 21; with_reducible refine (place_any N D _ lm k o _ (HIm6.out.later (Below.refl _ _).drew) HRm.out ik io).mono ?_; rintro e w29 ⟨rfl, hq⟩; rw [HPK.out]; replace HIm6 := Lib.hid (HIm6.out.later (below_two (Below.refl _ _).drew hq)); replace HIy6 := Lib.hid (HIy6.out.later (below_two (Below.refl _ _).drew hq)); replace HIr := Lib.hid (HIr.out.later (below_two (Below.refl _ _).drew hq)); replace HBR := Lib.hid (HBR.out.later (below_two (Below.refl _ _).drew hq)); replace HP1 := Lib.hid (HP1.out.later (below_two (Below.refl _ _).drew hq)); replace HP2 := Lib.hid (HP2.out.later (below_two (Below.refl _ _).drew hq))))
      rename_i hS
      clear c_y_0 c_y_1 c_y_2 c_t_0 c_t_1 c_n_0 c_n_1 c_m_0 c_m_1 c_m_2 c_q_0 c_q_1 c_q_2 c_l_0 c_l_1 c_f_0 c_f_1 hB28 z_f z_l z_m z_n z_q z_t z_y
      obtain ⟨c_y_0, c_y_1, c_y_2, c_t_0, c_t_1, c_n_0, c_n_1, c_m_0, c_m_1, c_m_2, c_q_0, c_q_1, c_q_2, c_l_0, c_l_1, c_f_0, c_f_1, hB29⟩ := hS
      have z_f := World.block_lt_of_cell? _ _ c_f_0
      have z_l := World.block_lt_of_cell? _ _ c_l_0
      have z_m := World.block_lt_of_cell? _ _ c_m_0
      have z_n := World.block_lt_of_cell? _ _ c_n_0
      have z_q := World.block_lt_of_cell? _ _ c_q_0
      have z_t := World.block_lt_of_cell? _ _ c_t_0
      have z_y := World.block_lt_of_cell? _ _ c_y_0
      obtain ⟨iy0, iy1⟩ : Rat.I64 y0 ∧ Rat.I64 y1 := by have := is_i64 (place_is (a := k) (o := o) HRm.out); rw [HPK.out] at this; exact this
      obtain ⟨il0, il1⟩ : Rat.I64 l0 ∧ Rat.I64 l1 := by have := lenP_i64 mn md ml; rw [HLX.out] at this; exact this
      have s0 : (w29.alloc (.cells #[.int .i64 t0, .int .i64 t1, .int .i64 y0, .int .i64 y1, .int .i64 0, .int .i64 0] 26)).cell? ⟨w29.heap.size, 0, none⟩ = some (.int .i64 t0) := by go_simp
      have s1 : (w29.alloc (.cells #[.int .i64 t0, .int .i64 t1, .int .i64 y0, .int .i64 y1, .int .i64 0, .int .i64 0] 26)).cell? ⟨w29.heap.size, 1, none⟩ = some (.int .i64 t1) := by go_simp
      have s2 : (w29.alloc (.cells #[.int .i64 t0, .int .i64 t1, .int .i64 y0, .int .i64 y1, .int .i64 0, .int .i64 0] 26)).cell? ⟨w29.heap.size, 2, none⟩ = some (.int .i64 y0) := by go_simp
      have s3 : (w29.alloc (.cells #[.int .i64 t0, .int .i64 t1, .int .i64 y0, .int .i64 y1, .int .i64 0, .int .i64 0] 26)).cell? ⟨w29.heap.size, 3, none⟩ = some (.int .i64 y1) := by go_simp
      have s4 : (w29.alloc (.cells #[.int .i64 t0, .int .i64 t1, .int .i64 y0, .int .i64 y1, .int .i64 0, .int .i64 0] 26)).cell? ⟨w29.heap.size, 4, none⟩ = some (.int .i64 0) := by go_simp
      have s5 : (w29.alloc (.cells #[.int .i64 t0, .int .i64 t1, .int .i64 y0, .int .i64 y1, .int .i64 0, .int .i64 0] 26)).cell? ⟨w29.heap.size, 5, none⟩ = some (.int .i64 0) := by go_simp
      replace HIm6 := Lib.hid (HIm6.out.later (alloc_below (Below.refl _ _) : Below w29.heap.size w29 (w29.alloc (.cells #[.int .i64 t0, .int .i64 t1, .int .i64 y0, .int .i64 y1, .int .i64 0, .int .i64 0] 26))))
      replace HIy6 := Lib.hid (HIy6.out.later (alloc_below (Below.refl _ _) : Below w29.heap.size w29 (w29.alloc (.cells #[.int .i64 t0, .int .i64 t1, .int .i64 y0, .int .i64 y1, .int .i64 0, .int .i64 0] 26))))
      replace HIr := Lib.hid (HIr.out.later (alloc_below (Below.refl _ _) : Below w29.heap.size w29 (w29.alloc (.cells #[.int .i64 t0, .int .i64 t1, .int .i64 y0, .int .i64 y1, .int .i64 0, .int .i64 0] 26))))
      replace HBR := Lib.hid (HBR.out.later (alloc_below (Below.refl _ _) : Below w29.heap.size w29 (w29.alloc (.cells #[.int .i64 t0, .int .i64 t1, .int .i64 y0, .int .i64 y1, .int .i64 0, .int .i64 0] 26))))
      replace HP1 := Lib.hid (HP1.out.later (alloc_below (Below.refl _ _) : Below w29.heap.size w29 (w29.alloc (.cells #[.int .i64 t0, .int .i64 t1, .int .i64 y0, .int .i64 y1, .int .i64 0, .int .i64 0] 26))))
      replace HP2 := Lib.hid (HP2.out.later (alloc_below (Below.refl _ _) : Below w29.heap.size w29 (w29.alloc (.cells #[.int .i64 t0, .int .i64 t1, .int .i64 y0, .int .i64 y1, .int .i64 0, .int .i64 0] 26))))
      have HROW2 : Hid (Row3 w29.heap.size (w29.alloc (.cells #[.int .i64 t0, .int .i64 t1, .int .i64 y0, .int .i64 y1, .int .i64 0, .int .i64 0] 26))) := Lib.hid (Row3.mk it0 it1 iy0 iy1 (i64_small (by decide) (by decide)) (i64_small (by decide) (by decide)) s0 s1 s2 s3 s4 s5)
      clear s0 s1 s2 s3 s4 s5
      have hB30 := hB29
      clear hB29
      generalize (w29.alloc (.cells #[.int .i64 t0, .int .i64 t1, .int .i64 y0, .int .i64 y1, .int .i64 0, .int .i64 0] 26)) = w30 at *
      go_wp2_with fail
      go_loopw [129] (fun v wr => ∃ i : Nat, i ≤ 3 ∧ v = .int .i64 (i : Int) ∧ Below w30.heap.size w30 wr) (fun v _ => 3 - (intOf v).toNat)
      case atStart => exact ⟨0, by omega, rfl, Below.refl _ _⟩
      case round =>
        obtain ⟨i2, hi2, rfl, hBr⟩ := hrel
        obtain ⟨w60, hwo⟩ : ∃ x, x = wr := ⟨_, rfl⟩
        subst hwo
        by_cases hlt2 : i2 < 3
        · obtain ⟨r0, r1, ir0, ir1, e0, e1⟩ := (HROW2.out.later hBr) i2 hlt2
          have hlt2' : (i2 : Int) < 3 := by omega
          have zr := World.block_lt_of_cell? _ _ e0
          have hB60 := below_two hB30 hBr
          have HBR2 : Hid (Below w30.heap.size w30 w60) := Lib.hid hBr
          clear c_y_0
          clear c_y_1
          clear c_y_2
          clear c_t_0
          clear c_t_1
          replace c_n_0 := cell_later hBr c_n_0
          replace c_n_1 := cell_later hBr c_n_1
          replace c_m_0 := cell_later hBr c_m_0
          replace c_m_1 := cell_later hBr c_m_1
          replace c_m_2 := cell_later hBr c_m_2
          replace c_q_0 := cell_later hBr c_q_0
          replace c_q_1 := cell_later hBr c_q_1
          replace c_q_2 := cell_later hBr c_q_2
          clear c_l_0
          clear c_l_1
          replace c_f_0 := cell_later hBr c_f_0
          replace c_f_1 := cell_later hBr c_f_1
          replace HIm6 := Lib.hid (HIm6.out.later hBr)
          clear HIy6
          replace HIr := Lib.hid (HIr.out.later hBr)
          replace HBR := Lib.hid (HBR.out.later hBr)
          clear HP1
          clear HP2
          clear HROW2
          clear z_f z_l z_m z_n z_q z_t z_y
          have z_f := World.block_lt_of_cell? _ _ c_f_0
          have z_m := World.block_lt_of_cell? _ _ c_m_0
          have z_n := World.block_lt_of_cell? _ _ c_n_0
          have z_q := World.block_lt_of_cell? _ _ c_q_0
          clear hBr
          obtain ⟨v1, HV1⟩ : ∃ x, Hid (Met.wtV mn md ml (r0, r1) = x) := ⟨_, Lib.hid rfl⟩
          obtain ⟨v2, HV2⟩ : ∃ x, Hid (Met.wtE mn md ml (r0, r1) = x) := ⟨_, Lib.hid rfl⟩
          go_wp2_with fail
          have hs61 : Below w60.heap.size w60 (w60.alloc (.cells #[.int .i64 r0, .int .i64 r1] 26)) := by repeat (first | exact Below.refl _ _ | refine Below.alloc ?_ (by simp <;> omega) _)
          replace HIm6 := Lib.hid (HIm6.out.later hs61)
          replace HIr := Lib.hid (HIr.out.later hs61)
          replace HBR := Lib.hid (HBR.out.later hs61)
          replace HBR2 := Lib.hid (HBR2.out.later hs61)
          replace c_n_0 := cell_later hs61 c_n_0
          replace c_n_1 := cell_later hs61 c_n_1
          replace c_m_0 := cell_later hs61 c_m_0
          replace c_m_1 := cell_later hs61 c_m_1
          replace c_m_2 := cell_later hs61 c_m_2
          replace c_q_0 := cell_later hs61 c_q_0
          replace c_q_1 := cell_later hs61 c_q_1
          replace c_q_2 := cell_later hs61 c_q_2
          replace c_f_0 := cell_later hs61 c_f_0
          replace c_f_1 := cell_later hs61 c_f_1
          have c_yy_0 : (w60.alloc (.cells #[.int .i64 r0, .int .i64 r1] 26)).cell? ⟨w60.heap.size, 0, none⟩ = some (.int .i64 r0) := by go_simp
          have c_yy_1 : (w60.alloc (.cells #[.int .i64 r0, .int .i64 r1] 26)).cell? ⟨w60.heap.size, 1, none⟩ = some (.int .i64 r1) := by go_simp
          have hB61 := below_two hB60 hs61
          clear hB60 hs61
          have y61_f := z_f
          have y61_m := z_m
          have y61_n := z_n
          have y61_q := z_q
          generalize (w60.alloc (.cells #[.int .i64 r0, .int .i64 r1] 26)) = w61 at *
          clear z_f
          have z_f := World.block_lt_of_cell? _ _ c_f_0
          clear z_m
          have z_m := World.block_lt_of_cell? _ _ c_m_0
          clear z_n
          have z_n := World.block_lt_of_cell? _ _ c_n_0
          clear z_q
          have z_q := World.block_lt_of_cell? _ _ c_q_0
          have z_yy := World.block_lt_of_cell? _ _ c_yy_0
          clear e0 e1 zr
          go_wp2_with fail
          refine (weight_is HIr.out HV1.out HV2.out).mono ?_
          rintro e w62 ⟨rfl, hb62⟩
          have hs62 := hb62
          replace HIm6 := Lib.hid (HIm6.out.later hs62)
          replace HIr := Lib.hid (HIr.out.later hs62)
          replace HBR := Lib.hid (HBR.out.later hs62)
          replace HBR2 := Lib.hid (HBR2.out.later hs62)
          replace c_n_0 := cell_later hs62 c_n_0
          replace c_n_1 := cell_later hs62 c_n_1
          replace c_m_0 := cell_later hs62 c_m_0
          replace c_m_1 := cell_later hs62 c_m_1
          replace c_m_2 := cell_later hs62 c_m_2
          replace c_q_0 := cell_later hs62 c_q_0
          replace c_q_1 := cell_later hs62 c_q_1
          replace c_q_2 := cell_later hs62 c_q_2
          replace c_f_0 := cell_later hs62 c_f_0
          replace c_f_1 := cell_later hs62 c_f_1
          replace c_yy_0 := cell_later hs62 c_yy_0
          replace c_yy_1 := cell_later hs62 c_yy_1
          clear z_f
          have z_f := World.block_lt_of_cell? _ _ c_f_0
          clear z_m
          have z_m := World.block_lt_of_cell? _ _ c_m_0
          clear z_n
          have z_n := World.block_lt_of_cell? _ _ c_n_0
          clear z_q
          have z_q := World.block_lt_of_cell? _ _ c_q_0
          clear z_yy
          have z_yy := World.block_lt_of_cell? _ _ c_yy_0
          have hB62 := below_two hB61 hs62
          clear hB61 hs62
          go_wp2_with fail
          refine (refWeight_is HIr.out ir0 ir1 HV1.out HV2.out).mono ?_
          rintro e w63 ⟨rfl, hb63⟩
          have hs63 := hb63
          replace HIm6 := Lib.hid (HIm6.out.later hs63)
          replace HIr := Lib.hid (HIr.out.later hs63)
          replace HBR := Lib.hid (HBR.out.later hs63)
          replace HBR2 := Lib.hid (HBR2.out.later hs63)
          replace c_n_0 := cell_later hs63 c_n_0
          replace c_n_1 := cell_later hs63 c_n_1
          replace c_m_0 := cell_later hs63 c_m_0
          replace c_m_1 := cell_later hs63 c_m_1
          replace c_m_2 := cell_later hs63 c_m_2
          replace c_q_0 := cell_later hs63 c_q_0
          replace c_q_1 := cell_later hs63 c_q_1
          replace c_q_2 := cell_later hs63 c_q_2
          replace c_f_0 := cell_later hs63 c_f_0
          replace c_f_1 := cell_later hs63 c_f_1
          replace c_yy_0 := cell_later hs63 c_yy_0
          replace c_yy_1 := cell_later hs63 c_yy_1
          clear z_f
          have z_f := World.block_lt_of_cell? _ _ c_f_0
          clear z_m
          have z_m := World.block_lt_of_cell? _ _ c_m_0
          clear z_n
          have z_n := World.block_lt_of_cell? _ _ c_n_0
          clear z_q
          have z_q := World.block_lt_of_cell? _ _ c_q_0
          clear z_yy
          have z_yy := World.block_lt_of_cell? _ _ c_yy_0
          have hB63 := below_two hB62 hs63
          clear hB62 hs63
          have b5 : (v1 != v1) = false := by simp
          have b6 : (v2 != v2) = false := by simp
          obtain ⟨⟨g0, g1⟩, HPN⟩ : ∃ X, Hid (Met.of (mkK N n o) (D * mkS o) = X) := ⟨_, Lib.hid rfl⟩
          go_wp2_with fail
          go_region_held3 (fun w' => w'.cell? ⟨w.heap.size + 1 + 1 + 1, 0, none⟩ = some (.int .i64 n0) ∧ w'.cell? ⟨w.heap.size + 1 + 1 + 1, 1, none⟩ = some (.int .i64 n1) ∧ w'.cell? ⟨w3.heap.size, 0, none⟩ = some (.int .i64 N) ∧ w'.cell? ⟨w3.heap.size, 1, none⟩ = some (.int .i64 D) ∧ w'.cell? ⟨w3.heap.size, 2, none⟩ = some (.slice pm lm.length cm) ∧ w'.cell? ⟨w20.heap.size, 0, none⟩ = some (.int .i64 mn) ∧ w'.cell? ⟨w20.heap.size, 1, none⟩ = some (.int .i64 md) ∧ w'.cell? ⟨w20.heap.size, 2, none⟩ = some (.slice pv ml.length cv) ∧ w'.cell? ⟨w24.heap.size, 0, none⟩ = some (.int .i64 l0) ∧ w'.cell? ⟨w24.heap.size, 1, none⟩ = some (.int .i64 l1) ∧ w'.cell? ⟨w60.heap.size, 0, none⟩ = some (.int .i64 r0) ∧ w'.cell? ⟨w60.heap.size, 1, none⟩ = some (.int .i64 r1) ∧ Below w.heap.size w w')
            (((try go_split_ands); refine ⟨?_, ?_, ?_, ?_, ?_, ?_, ?_, ?_, ?_, ?_, ?_, ?_, ?_⟩ <;> first | with_reducible assumption | (with_reducible refine cell_later hq ?_; with_reducible assumption) | (with_reducible refine below_two ?_ hq; with_reducible assumption) | (with_reducible refine alloc_below ?_; with_reducible assumption) | (with_reducible refine alloc_cell ?_; with_reducible assumption) | with_reducible exact cell_drew c_n_0 | with_reducible exact cell_drew c_n_1 | with_reducible exact cell_drew c_m_0 | with_reducible exact cell_drew c_m_1 | with_reducible exact cell_drew c_m_2 | with_reducible exact cell_drew c_q_0 | with_reducible exact cell_drew c_q_1 | with_reducible exact cell_drew c_q_2 | with_reducible exact cell_drew c_f_0 | with_reducible exact cell_drew c_f_1 | with_reducible exact cell_drew c_yy_0 | with_reducible exact cell_drew c_yy_1 | with_reducible exact hB63.drew))
            (first
              | (go_at_call 21; with_reducible refine (place_any N D _ lm n o _ (HIm6.out.later (Below.refl _ _).drew) HRm.out inn io).mono ?_; rintro e w64 ⟨rfl, hq⟩; rw [HPN.out]; replace HIm6 := Lib.hid (HIm6.out.later (below_two (Below.refl _ _).drew hq)); replace HIr := Lib.hid (HIr.out.later (below_two (Below.refl _ _).drew hq)); replace HBR := Lib.hid (HBR.out.later (below_two (Below.refl _ _).drew hq)); replace HBR2 := Lib.hid (HBR2.out.later (below_two (Below.refl _ _).drew hq))))
          rename_i hS
          clear c_n_0 c_n_1 c_m_0 c_m_1 c_m_2 c_q_0 c_q_1 c_q_2 c_f_0 c_f_1 c_yy_0 c_yy_1 hB63 z_f z_m z_n z_q z_yy
          obtain ⟨c_n_0, c_n_1, c_m_0, c_m_1, c_m_2, c_q_0, c_q_1, c_q_2, c_f_0, c_f_1, c_yy_0, c_yy_1, hB64⟩ := hS
          have z_f := World.block_lt_of_cell? _ _ c_f_0
          have z_m := World.block_lt_of_cell? _ _ c_m_0
          have z_n := World.block_lt_of_cell? _ _ c_n_0
          have z_q := World.block_lt_of_cell? _ _ c_q_0
          have z_yy := World.block_lt_of_cell? _ _ c_yy_0
          obtain ⟨ig0, ig1⟩ : Rat.I64 g0 ∧ Rat.I64 g1 := by have := is_i64 (place_is (a := n) (o := o) HRm.out); rw [HPN.out] at this; exact this
          have s0 : (w64.alloc (.cells #[.int .i64 n0, .int .i64 n1, .int .i64 g0, .int .i64 g1, .int .i64 l0, .int .i64 l1] 26)).cell? ⟨w64.heap.size, 0, none⟩ = some (.int .i64 n0) := by go_simp
          have s1 : (w64.alloc (.cells #[.int .i64 n0, .int .i64 n1, .int .i64 g0, .int .i64 g1, .int .i64 l0, .int .i64 l1] 26)).cell? ⟨w64.heap.size, 1, none⟩ = some (.int .i64 n1) := by go_simp
          have s2 : (w64.alloc (.cells #[.int .i64 n0, .int .i64 n1, .int .i64 g0, .int .i64 g1, .int .i64 l0, .int .i64 l1] 26)).cell? ⟨w64.heap.size, 2, none⟩ = some (.int .i64 g0) := by go_simp
          have s3 : (w64.alloc (.cells #[.int .i64 n0, .int .i64 n1, .int .i64 g0, .int .i64 g1, .int .i64 l0, .int .i64 l1] 26)).cell? ⟨w64.heap.size, 3, none⟩ = some (.int .i64 g1) := by go_simp
          have s4 : (w64.alloc (.cells #[.int .i64 n0, .int .i64 n1, .int .i64 g0, .int .i64 g1, .int .i64 l0, .int .i64 l1] 26)).cell? ⟨w64.heap.size, 4, none⟩ = some (.int .i64 l0) := by go_simp
          have s5 : (w64.alloc (.cells #[.int .i64 n0, .int .i64 n1, .int .i64 g0, .int .i64 g1, .int .i64 l0, .int .i64 l1] 26)).cell? ⟨w64.heap.size, 5, none⟩ = some (.int .i64 l1) := by go_simp
          replace HIm6 := Lib.hid (HIm6.out.later (alloc_below (Below.refl _ _) : Below w64.heap.size w64 (w64.alloc (.cells #[.int .i64 n0, .int .i64 n1, .int .i64 g0, .int .i64 g1, .int .i64 l0, .int .i64 l1] 26))))
          replace HIr := Lib.hid (HIr.out.later (alloc_below (Below.refl _ _) : Below w64.heap.size w64 (w64.alloc (.cells #[.int .i64 n0, .int .i64 n1, .int .i64 g0, .int .i64 g1, .int .i64 l0, .int .i64 l1] 26))))
          replace HBR := Lib.hid (HBR.out.later (alloc_below (Below.refl _ _) : Below w64.heap.size w64 (w64.alloc (.cells #[.int .i64 n0, .int .i64 n1, .int .i64 g0, .int .i64 g1, .int .i64 l0, .int .i64 l1] 26))))
          replace HBR2 := Lib.hid (HBR2.out.later (alloc_below (Below.refl _ _) : Below w64.heap.size w64 (w64.alloc (.cells #[.int .i64 n0, .int .i64 n1, .int .i64 g0, .int .i64 g1, .int .i64 l0, .int .i64 l1] 26))))
          have HROW3 : Hid (Row3 w64.heap.size (w64.alloc (.cells #[.int .i64 n0, .int .i64 n1, .int .i64 g0, .int .i64 g1, .int .i64 l0, .int .i64 l1] 26))) := Lib.hid (Row3.mk in0 in1 ig0 ig1 il0 il1 s0 s1 s2 s3 s4 s5)
          clear s0 s1 s2 s3 s4 s5
          have hB65 := hB64
          clear hB64
          generalize (w64.alloc (.cells #[.int .i64 n0, .int .i64 n1, .int .i64 g0, .int .i64 g1, .int .i64 l0, .int .i64 l1] 26)) = w65 at *
          go_wp2_with fail
          go_loopw [161] (fun v wr => ∃ i : Nat, i ≤ 3 ∧ v = .int .i64 (i : Int) ∧ Below w65.heap.size w65 wr) (fun v _ => 3 - (intOf v).toNat)
          case atStart => exact ⟨0, by omega, rfl, Below.refl _ _⟩
          case round =>
            obtain ⟨i3, hi3', rfl, hBr⟩ := hrel
            obtain ⟨w90, hwo⟩ : ∃ x, x = wr := ⟨_, rfl⟩
            subst hwo
            by_cases hlt3 : i3 < 3
            · obtain ⟨x0, x1, ix0, ix1, e0, e1⟩ := (HROW3.out.later hBr) i3 hlt3
              have hlt3' : (i3 : Int) < 3 := by omega
              have zr := World.block_lt_of_cell? _ _ e0
              have hB90 := below_two hB65 hBr
              have HBR3 : Hid (Below w65.heap.size w65 w90) := Lib.hid hBr
              clear c_n_0
              clear c_n_1
              clear c_m_0
              clear c_m_1
              clear c_m_2
              replace c_q_0 := cell_later hBr c_q_0
              replace c_q_1 := cell_later hBr c_q_1
              replace c_q_2 := cell_later hBr c_q_2
              clear c_f_0
              clear c_f_1
              replace c_yy_0 := cell_later hBr c_yy_0
              replace c_yy_1 := cell_later hBr c_yy_1
              clear HIm6
              replace HIr := Lib.hid (HIr.out.later hBr)
              clear HBR
              clear HBR2
              clear HROW3
              clear z_f z_m z_n z_q z_yy
              have z_q := World.block_lt_of_cell? _ _ c_q_0
              have z_yy := World.block_lt_of_cell? _ _ c_yy_0
              clear hBr
              obtain ⟨⟨ec, LC⟩, HCT⟩ : ∃ X, Hid (Met.ct mn md ml (r0, r1) (x0, x1) = X) := ⟨_, Lib.hid rfl⟩
              go_wp2_with fail
              have hs91 : Below w90.heap.size w90 (w90.alloc (.cells #[.int .i64 x0, .int .i64 x1] 26)) := by repeat (first | exact Below.refl _ _ | refine Below.alloc ?_ (by simp <;> omega) _)
              replace HIr := Lib.hid (HIr.out.later hs91)
              replace HBR3 := Lib.hid (HBR3.out.later hs91)
              replace c_q_0 := cell_later hs91 c_q_0
              replace c_q_1 := cell_later hs91 c_q_1
              replace c_q_2 := cell_later hs91 c_q_2
              replace c_yy_0 := cell_later hs91 c_yy_0
              replace c_yy_1 := cell_later hs91 c_yy_1
              have c_zz_0 : (w90.alloc (.cells #[.int .i64 x0, .int .i64 x1] 26)).cell? ⟨w90.heap.size, 0, none⟩ = some (.int .i64 x0) := by go_simp
              have c_zz_1 : (w90.alloc (.cells #[.int .i64 x0, .int .i64 x1] 26)).cell? ⟨w90.heap.size, 1, none⟩ = some (.int .i64 x1) := by go_simp
              have hB91 := below_two hB90 hs91
              clear hB90 hs91
              have y91_q := z_q
              have y91_yy := z_yy
              generalize (w90.alloc (.cells #[.int .i64 x0, .int .i64 x1] 26)) = w91 at *
              clear z_q
              have z_q := World.block_lt_of_cell? _ _ c_q_0
              clear z_yy
              have z_yy := World.block_lt_of_cell? _ _ c_yy_0
              have z_zz := World.block_lt_of_cell? _ _ c_zz_0
              clear e0 e1 zr
              go_wp2_with fail
              refine (cut_is HIr.out HCT.out).mono ?_
              rintro e w92 ⟨⟨u3, rfl, hP3⟩, hb92⟩
              have hs92 := hb92
              replace HIr := Lib.hid (HIr.out.later hs92)
              replace HBR3 := Lib.hid (HBR3.out.later hs92)
              replace c_q_0 := cell_later hs92 c_q_0
              replace c_q_1 := cell_later hs92 c_q_1
              replace c_q_2 := cell_later hs92 c_q_2
              replace c_yy_0 := cell_later hs92 c_yy_0
              replace c_yy_1 := cell_later hs92 c_yy_1
              replace c_zz_0 := cell_later hs92 c_zz_0
              replace c_zz_1 := cell_later hs92 c_zz_1
              clear z_q
              have z_q := World.block_lt_of_cell? _ _ c_q_0
              clear z_yy
              have z_yy := World.block_lt_of_cell? _ _ c_yy_0
              clear z_zz
              have z_zz := World.block_lt_of_cell? _ _ c_zz_0
              have hB92 := below_two hB91 hs92
              clear hB91 hs92
              have HP3 := Lib.hid hP3
              clear hP3
              go_wp2_with fail
              refine (refCut_is HIr.out ir0 ir1 ix0 ix1 HCT.out).mono ?_
              rintro e w93 ⟨⟨u4, rfl, hP4⟩, hb93⟩
              have hs93 := hb93
              replace HIr := Lib.hid (HIr.out.later hs93)
              replace HBR3 := Lib.hid (HBR3.out.later hs93)
              replace HP3 := Lib.hid (HP3.out.later hs93)
              replace c_q_0 := cell_later hs93 c_q_0
              replace c_q_1 := cell_later hs93 c_q_1
              replace c_q_2 := cell_later hs93 c_q_2
              replace c_yy_0 := cell_later hs93 c_yy_0
              replace c_yy_1 := cell_later hs93 c_yy_1
              replace c_zz_0 := cell_later hs93 c_zz_0
              replace c_zz_1 := cell_later hs93 c_zz_1
              clear z_q
              have z_q := World.block_lt_of_cell? _ _ c_q_0
              clear z_yy
              have z_yy := World.block_lt_of_cell? _ _ c_yy_0
              clear z_zz
              have z_zz := World.block_lt_of_cell? _ _ c_zz_0
              have hB93 := below_two hB92 hs93
              clear hB92 hs93
              have HP4 := Lib.hid hP4
              clear hP4
              have b7 : (ec != ec) = false := by simp
              go_wp2_with fail
              refine (ratios_is HP3.out HP4.out (t := true) (by simp)).mono ?_
              rintro e w94 ⟨rfl, hb94⟩
              have hs94 := hb94
              replace HIr := Lib.hid (HIr.out.later hs94)
              replace HBR3 := Lib.hid (HBR3.out.later hs94)
              replace HP3 := Lib.hid (HP3.out.later hs94)
              replace HP4 := Lib.hid (HP4.out.later hs94)
              replace c_q_0 := cell_later hs94 c_q_0
              replace c_q_1 := cell_later hs94 c_q_1
              replace c_q_2 := cell_later hs94 c_q_2
              replace c_yy_0 := cell_later hs94 c_yy_0
              replace c_yy_1 := cell_later hs94 c_yy_1
              replace c_zz_0 := cell_later hs94 c_zz_0
              replace c_zz_1 := cell_later hs94 c_zz_1
              clear z_q
              have z_q := World.block_lt_of_cell? _ _ c_q_0
              clear z_yy
              have z_yy := World.block_lt_of_cell? _ _ c_yy_0
              clear z_zz
              have z_zz := World.block_lt_of_cell? _ _ c_zz_0
              have hB94 := below_two hB93 hs94
              clear hB93 hs94
              go_wp2
              go_roundw
              case rel => exact ⟨i3 + 1, by omega, by go_num, HBR3.out⟩
              case measure => simp [intOf]; omega
            · obtain rfl : i3 = 3 := by omega
              go_wp2
              go_roundw
              case rel => exact ⟨i2 + 1, by omega, by go_num, below_two HBR2.out hBr⟩
              case measure => simp [intOf]; omega
        · obtain rfl : i2 = 3 := by omega
          go_wp2
          go_roundw
          case rel => exact ⟨i + 1, by omega, by go_num, below_two HBR.out hBr⟩
          case measure => simp [intOf]; omega
    · obtain rfl : i = 3 := by omega
      go_wp2
      go_ret
      exact ⟨rfl, below_two hB9 hBr⟩

theorem meterTells_calls (a b : Int) (v : Value) (gs : List Int) (a' b' : Int) (v' : Value) (gs' : List Int) (gr : Bool) (t0 t1 n0 n1 k n o : Int) (w : World) (hI : Ints w v gs) (ia : Rat.I64 a) (ib : Rat.I64 b) (hgs : ∀ z ∈ gs, Rat.I64 z) (hI' : Ints w v' gs') (ia' : Rat.I64 a') (ib' : Rat.I64 b') (hgs' : ∀ z ∈ gs', Rat.I64 z) (it0 : Rat.I64 t0) (it1 : Rat.I64 t1) (in0 : Rat.I64 n0) (in1 : Rat.I64 n1) (ik : Rat.I64 k) (inn : Rat.I64 n) (io : Rat.I64 o) : LawHolds 3 #[mt a b v, mt a' b' v', .bool gr, rt t0 t1, rt n0 n1, .int .i64 k, .int .i64 n, .int .i64 o] w :=
  meterTells_w a b v gs a' b' v' gs' gr t0 t1 n0 n1 k n o w hI hI' ia ib hgs ia' ib' hgs' it0 it1 in0 in1 ik inn io
end Go.Proofs.Ytlodhfdikglgoaa
