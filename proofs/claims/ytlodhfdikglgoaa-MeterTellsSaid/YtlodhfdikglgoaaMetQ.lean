/-
  The contract of the reference's Cut.
-/
import Derived.Test.YtlodhfdikglgoaaMetP
namespace Go.Proofs.Ytlodhfdikglgoaa
open Go.RowKit

theorem ad_small (p q : Met.Pr) : -1000000000 ≤ (Met.ad p q).1 ∧ (Met.ad p q).1 ≤ 1000000000 ∧ -1000000000 ≤ (Met.ad p q).2 ∧ (Met.ad p q).2 ≤ 1000000000 := by
  unfold Met.ad binN binD
  cases Rat.right p.1 p.2 && Rat.right q.1 q.2
  · simp
  · simp only [if_true]
    by_cases h : Rat.ofE (p.1 * q.2 + q.1 * p.2) (p.2 * q.2) = 0
    · have := right_bounds (Rat.of_sound h).1; omega
    · obtain ⟨x, y⟩ := res_zero h; rw [x, y]; omega
theorem ad_i64 (p q : Met.Pr) : Rat.I64 (Met.ad p q).1 ∧ Rat.I64 (Met.ad p q).2 := ⟨i64_small (ad_small p q).1 (ad_small p q).2.1, i64_small (ad_small p q).2.2.1 (ad_small p q).2.2.2⟩
theorem refCompareI {a b c e m : Int} (h1 : Rat.I64 a ∧ Rat.I64 b) (h2 : Rat.I64 c ∧ Rat.I64 e) (h : Met.cm (a, b) (c, e) = m) (w : World) :
    Calls Try.prog 46 #[rt a b, rt c e] w fun ed w' => ed = .returned (.int .i64 m) ∧ Below w.heap.size w w' := by have := refCompareP (a, b) (c, e) h1.1 h1.2 h2.1 h2.2 w; rw [h] at this; exact this
theorem refSubI {a b c e x y E : Int} (h1 : Rat.I64 a ∧ Rat.I64 b) (h2 : Rat.I64 c ∧ Rat.I64 e) (h : Met.sb (a, b) (c, e) = (x, y)) (h' : Met.sbE (a, b) (c, e) = E) (w : World) :
    Calls Try.prog 47 #[rt a b, rt c e] w fun ed w' => ed = .returned (rvp (x, y) E) ∧ Below w.heap.size w w' := by have := refSubP (a, b) (c, e) h1.1 h1.2 h2.1 h2.2 w; rw [h, h'] at this; exact this
theorem comb_nil (f t : Met.Pr) (ts : List Met.Pr) : Met.comb [] (Met.pcR (f :: t :: ts)) = Met.pcR (f :: t :: ts) := by
  rw [Met.pcR_cons]
  split
  · rename_i h; unfold Met.comb; rw [if_pos h]
  · rw [Met.comb_comb]; rfl
theorem bt_i64 {q d : Int} {gs : List Int} (hr : Met.right q d gs = true) : ∀ x ∈ Met.bt q d gs, Rat.I64 x.1 ∧ Rat.I64 x.2 := fun x hx => by
  obtain ⟨k, hk, rfl⟩ := Met.bt_mem hx
  exact right_i64 ((Met.isRight hr).beat hk).r
theorem mid_snoc {u v : Met.Pr} {l : List Met.Pr} {k : Nat} {x : Met.Pr} (h : l[k]? = some x) : Met.mid u v (l.take (k + 1)) = Met.mid u v (l.take k) ++ (if 0 < Met.cm x u ∧ Met.cm x v < 0 then [x] else []) := by
  rw [Met.take_succ_at h]
  unfold Met.mid
  rw [List.filter_append]
  by_cases h1 : 0 < Met.cm x u <;> by_cases h2 : Met.cm x v < 0 <;> simp [h1, h2]
theorem own_one (w : World) (a b : Int) : (w.alloc (.cells #[.int .i64 a, .int .i64 b] 26)).ownsRow w.heap.size 26 2 (.slice (some ⟨w.heap.size, 0, none⟩) 1 1) (0 + 1) (rowP ((a, b) :: [])) :=
  ⟨by simp [rowP], .inr ⟨w.heap.size, 1, #[.int .i64 a, .int .i64 b], rfl, Nat.le_refl _, World.alloc_heap_new _ _, by omega, by unfold maxLen; omega, rfl, by simp [rowP]⟩⟩
def PlRel (u v : Met.Pr) (L : List Met.Pr) (w : World) (l i : Value) (wr : World) : Prop := ∃ (k nb : Nat) (lm : List Met.Pr), k ≤ L.length ∧ nb ≤ k ∧ i = .int .i64 (k : Int) ∧ Hid (lm.length = nb) ∧ Hid (Met.mid u v (L.take k) = lm) ∧ Hid (wr.ownsRow w.heap.size 26 2 l (nb + 1) (rowP (u :: lm))) ∧ Below w.heap.size w wr
def PcRel (PL : List Met.Pr) (w : World) (l i : Value) (wr : World) : Prop := ∃ (k : Nat) (o : List Met.Pr), k + 1 ≤ PL.length ∧ i = .int .i64 ((k : Int) + 1) ∧ Hid (o.length = k) ∧ Hid (Met.pcR PL = Met.comb o (Met.pcR (PL.drop k))) ∧ Hid (wr.ownsRow w.heap.size 26 2 l k (rowP o)) ∧ Below w.heap.size w wr
theorem drop_two {l : List Met.Pr} {k : Nat} {f t : Met.Pr} (h1 : l[k]? = some f) (h2 : l[k + 1]? = some t) : l.drop k = f :: t :: l.drop (k + 2) ∧ l.drop (k + 1) = t :: l.drop (k + 2) := by
  obtain ⟨a1, e1⟩ := List.getElem?_eq_some_iff.1 h1
  obtain ⟨a2, e2⟩ := List.getElem?_eq_some_iff.1 h2
  have x2 : l.drop (k + 1) = t :: l.drop (k + 2) := by rw [List.drop_eq_getElem_cons a2, e2]
  exact ⟨by rw [List.drop_eq_getElem_cons a1, e1, x2], x2⟩

set_option maxRecDepth 100000 in
set_option maxHeartbeats 4000000 in
theorem refCut_no (q d : Int) (v : Value) (gs : List Int) (a b c e : Int) (w : World) (hI : Ints w v gs) (ia : Rat.I64 a) (ib : Rat.I64 b) (ic : Rat.I64 c) (ie : Rat.I64 e) (hr : Met.right q d gs = false) :
    Calls Try.prog 25 #[mt q d v, rt a b, rt c e] w fun ed w' => ed = .returned (.tuple #[.slice none 0 0, .int .i64 50]) ∧ Below w.heap.size w w' := by
  obtain ⟨p, cap, rfl, hl, hc⟩ := hI
  have HI : Hid (Ints w (.slice p gs.length cap) gs) := Lib.hid ⟨p, cap, rfl, hl, hc⟩
  have HIA := Lib.hid (And.intro ia (And.intro ib (And.intro ic ie)))
  clear hl hc ia ib ic ie
  have hB0 : Below w.heap.size w w := Below.refl _ _
  go_enter Try.func25, Try.ntmps25
  go_wp2_with fail
  refine (refBeats_wrong (HI.out.later (((hB0.alloc hB0.size (.cells #[.int .i64 q, .int .i64 d, .slice p gs.length cap] 24)).alloc (hB0.alloc hB0.size (.cells #[.int .i64 q, .int .i64 d, .slice p gs.length cap] 24)).size (.cells #[.int .i64 a, .int .i64 b] 26)).alloc ((hB0.alloc hB0.size (.cells #[.int .i64 q, .int .i64 d, .slice p gs.length cap] 24)).alloc (hB0.alloc hB0.size (.cells #[.int .i64 q, .int .i64 d, .slice p gs.length cap] 24)).size (.cells #[.int .i64 a, .int .i64 b] 26)).size (.cells #[.int .i64 c, .int .i64 e] 26))) hr).mono ?_
  rintro e w1 ⟨⟨u1, rfl, _⟩, hb1⟩
  have hs1 : Below w.heap.size w w1 := Below.trans (by repeat (first | exact Below.refl _ _ | refine Below.alloc ?_ (by simp <;> omega) _)) (hb1.mono (by simp <;> omega))
  have c_m_0 : w1.cell? ⟨w.heap.size, 0, none⟩ = some (.int .i64 q) := (hb1.cell (by simp <;> omega)).trans (by go_simp)
  have c_m_1 : w1.cell? ⟨w.heap.size, 1, none⟩ = some (.int .i64 d) := (hb1.cell (by simp <;> omega)).trans (by go_simp)
  have c_m_2 : w1.cell? ⟨w.heap.size, 2, none⟩ = some (.slice p gs.length cap) := (hb1.cell (by simp <;> omega)).trans (by go_simp)
  have c_a_0 : w1.cell? ⟨w.heap.size + 1, 0, none⟩ = some (.int .i64 a) := (hb1.cell (by simp <;> omega)).trans (by go_simp)
  have c_a_1 : w1.cell? ⟨w.heap.size + 1, 1, none⟩ = some (.int .i64 b) := (hb1.cell (by simp <;> omega)).trans (by go_simp)
  have c_n_0 : w1.cell? ⟨w.heap.size + 1 + 1, 0, none⟩ = some (.int .i64 c) := (hb1.cell (by simp <;> omega)).trans (by go_simp)
  have c_n_1 : w1.cell? ⟨w.heap.size + 1 + 1, 1, none⟩ = some (.int .i64 e) := (hb1.cell (by simp <;> omega)).trans (by go_simp)
  have z_a := World.block_lt_of_cell? _ _ c_a_0
  have z_m := World.block_lt_of_cell? _ _ c_m_0
  have z_n := World.block_lt_of_cell? _ _ c_n_0
  have hB1 := below_two hB0 hs1
  clear hB0 hs1 hb1
  go_wp2
  go_ret2
  exact ⟨rfl, hB1⟩

set_option maxRecDepth 100000 in
set_option maxHeartbeats 4000000 in
theorem refCut_out1 (q d : Int) (v : Value) (gs : List Int) (a b c e : Int) (w : World) (hI : Ints w v gs) (ia : Rat.I64 a) (ib : Rat.I64 b) (ic : Rat.I64 c) (ie : Rat.I64 e) (hr : Met.right q d gs = true) (h1 : Met.inB q d (a, b) = false) (t : Bool) (h2 : Met.ok (c, e) = t) :
    Calls Try.prog 25 #[mt q d v, rt a b, rt c e] w fun ed w' => ed = .returned (.tuple #[.slice none 0 0, .int .i64 2]) ∧ Below w.heap.size w w' := by
  obtain ⟨p, cap, rfl, hl, hc⟩ := hI
  have HI : Hid (Ints w (.slice p gs.length cap) gs) := Lib.hid ⟨p, cap, rfl, hl, hc⟩
  have HIA := Lib.hid (And.intro ia (And.intro ib (And.intro ic ie)))
  clear hl hc ia ib ic ie
  have hlen := (Met.isRight hr).len
  rw [← Met.bts_length d] at hlen
  have HRB := Lib.hid (bt_i64 hr)
  obtain ⟨L, HL⟩ : ∃ L, Hid (Met.bt q d gs = L) := ⟨_, Lib.hid rfl⟩
  rw [show Met.bts d (Met.grp q d gs) = L from HL.out] at hlen
  rw [HL.out] at HRB
  obtain ⟨hlen1, hlen2⟩ := hlen
  have hB0 : Below w.heap.size w w := Below.refl _ _
  go_enter Try.func25, Try.ntmps25
  go_wp2_with fail
  refine (refBeats_right (HI.out.later (((hB0.alloc hB0.size (.cells #[.int .i64 q, .int .i64 d, .slice p gs.length cap] 24)).alloc (hB0.alloc hB0.size (.cells #[.int .i64 q, .int .i64 d, .slice p gs.length cap] 24)).size (.cells #[.int .i64 a, .int .i64 b] 26)).alloc ((hB0.alloc hB0.size (.cells #[.int .i64 q, .int .i64 d, .slice p gs.length cap] 24)).alloc (hB0.alloc hB0.size (.cells #[.int .i64 q, .int .i64 d, .slice p gs.length cap] 24)).size (.cells #[.int .i64 a, .int .i64 b] 26)).size (.cells #[.int .i64 c, .int .i64 e] 26))) hr HL.out).mono ?_
  rintro e w1 ⟨⟨u1, rfl, hP1⟩, hb1⟩
  have hs1 : Below w.heap.size w w1 := Below.trans (by repeat (first | exact Below.refl _ _ | refine Below.alloc ?_ (by simp <;> omega) _)) (hb1.mono (by simp <;> omega))
  have c_m_0 : w1.cell? ⟨w.heap.size, 0, none⟩ = some (.int .i64 q) := (hb1.cell (by simp <;> omega)).trans (by go_simp)
  have c_m_1 : w1.cell? ⟨w.heap.size, 1, none⟩ = some (.int .i64 d) := (hb1.cell (by simp <;> omega)).trans (by go_simp)
  have c_m_2 : w1.cell? ⟨w.heap.size, 2, none⟩ = some (.slice p gs.length cap) := (hb1.cell (by simp <;> omega)).trans (by go_simp)
  have c_a_0 : w1.cell? ⟨w.heap.size + 1, 0, none⟩ = some (.int .i64 a) := (hb1.cell (by simp <;> omega)).trans (by go_simp)
  have c_a_1 : w1.cell? ⟨w.heap.size + 1, 1, none⟩ = some (.int .i64 b) := (hb1.cell (by simp <;> omega)).trans (by go_simp)
  have c_n_0 : w1.cell? ⟨w.heap.size + 1 + 1, 0, none⟩ = some (.int .i64 c) := (hb1.cell (by simp <;> omega)).trans (by go_simp)
  have c_n_1 : w1.cell? ⟨w.heap.size + 1 + 1, 1, none⟩ = some (.int .i64 e) := (hb1.cell (by simp <;> omega)).trans (by go_simp)
  have z_a := World.block_lt_of_cell? _ _ c_a_0
  have z_m := World.block_lt_of_cell? _ _ c_m_0
  have z_n := World.block_lt_of_cell? _ _ c_n_0
  have hB1 := below_two hB0 hs1
  clear hB0 hs1 hb1
  have HP1 := Lib.hid hP1
  clear hP1
  go_wp2_with fail
  refine (refWithin_is (HI.out.later hB1) hr HIA.out.1 HIA.out.2.1 h1).mono ?_
  rintro e w2 ⟨rfl, hb2⟩
  have hs2 := hb2
  replace HP1 := Lib.hid (HP1.out.later hs2)
  replace c_m_0 := cell_later hs2 c_m_0
  replace c_m_1 := cell_later hs2 c_m_1
  replace c_m_2 := cell_later hs2 c_m_2
  replace c_a_0 := cell_later hs2 c_a_0
  replace c_a_1 := cell_later hs2 c_a_1
  replace c_n_0 := cell_later hs2 c_n_0
  replace c_n_1 := cell_later hs2 c_n_1
  clear z_a
  have z_a := World.block_lt_of_cell? _ _ c_a_0
  clear z_m
  have z_m := World.block_lt_of_cell? _ _ c_m_0
  clear z_n
  have z_n := World.block_lt_of_cell? _ _ c_n_0
  have hB2 := below_two hB1 hs2
  clear hB1 hs2
  go_wp2_with fail
  refine (refRightP HIA.out.2.2.1 HIA.out.2.2.2 h2 _).mono ?_
  rintro e w3 ⟨rfl, hb3⟩
  have hs3 := hb3
  replace HP1 := Lib.hid (HP1.out.later hs3)
  replace c_m_0 := cell_later hs3 c_m_0
  replace c_m_1 := cell_later hs3 c_m_1
  replace c_m_2 := cell_later hs3 c_m_2
  replace c_a_0 := cell_later hs3 c_a_0
  replace c_a_1 := cell_later hs3 c_a_1
  replace c_n_0 := cell_later hs3 c_n_0
  replace c_n_1 := cell_later hs3 c_n_1
  clear z_a
  have z_a := World.block_lt_of_cell? _ _ c_a_0
  clear z_m
  have z_m := World.block_lt_of_cell? _ _ c_m_0
  clear z_n
  have z_n := World.block_lt_of_cell? _ _ c_n_0
  have hB3 := below_two hB2 hs3
  clear hB2 hs3
  go_wp2
  go_ret2
  exact ⟨rfl, hB3⟩

set_option maxRecDepth 100000 in
set_option maxHeartbeats 4000000 in
theorem refCut_out2 (q d : Int) (v : Value) (gs : List Int) (a b c e : Int) (w : World) (hI : Ints w v gs) (ia : Rat.I64 a) (ib : Rat.I64 b) (ic : Rat.I64 c) (ie : Rat.I64 e) (hr : Met.right q d gs = true) (h1 : Met.inB q d (a, b) = true) (h2 : Met.ok (c, e) = false) :
    Calls Try.prog 25 #[mt q d v, rt a b, rt c e] w fun ed w' => ed = .returned (.tuple #[.slice none 0 0, .int .i64 2]) ∧ Below w.heap.size w w' := by
  obtain ⟨p, cap, rfl, hl, hc⟩ := hI
  have HI : Hid (Ints w (.slice p gs.length cap) gs) := Lib.hid ⟨p, cap, rfl, hl, hc⟩
  have HIA := Lib.hid (And.intro ia (And.intro ib (And.intro ic ie)))
  clear hl hc ia ib ic ie
  have hlen := (Met.isRight hr).len
  rw [← Met.bts_length d] at hlen
  have HRB := Lib.hid (bt_i64 hr)
  obtain ⟨L, HL⟩ : ∃ L, Hid (Met.bt q d gs = L) := ⟨_, Lib.hid rfl⟩
  rw [show Met.bts d (Met.grp q d gs) = L from HL.out] at hlen
  rw [HL.out] at HRB
  obtain ⟨hlen1, hlen2⟩ := hlen
  have hB0 : Below w.heap.size w w := Below.refl _ _
  go_enter Try.func25, Try.ntmps25
  go_wp2_with fail
  refine (refBeats_right (HI.out.later (((hB0.alloc hB0.size (.cells #[.int .i64 q, .int .i64 d, .slice p gs.length cap] 24)).alloc (hB0.alloc hB0.size (.cells #[.int .i64 q, .int .i64 d, .slice p gs.length cap] 24)).size (.cells #[.int .i64 a, .int .i64 b] 26)).alloc ((hB0.alloc hB0.size (.cells #[.int .i64 q, .int .i64 d, .slice p gs.length cap] 24)).alloc (hB0.alloc hB0.size (.cells #[.int .i64 q, .int .i64 d, .slice p gs.length cap] 24)).size (.cells #[.int .i64 a, .int .i64 b] 26)).size (.cells #[.int .i64 c, .int .i64 e] 26))) hr HL.out).mono ?_
  rintro e w1 ⟨⟨u1, rfl, hP1⟩, hb1⟩
  have hs1 : Below w.heap.size w w1 := Below.trans (by repeat (first | exact Below.refl _ _ | refine Below.alloc ?_ (by simp <;> omega) _)) (hb1.mono (by simp <;> omega))
  have c_m_0 : w1.cell? ⟨w.heap.size, 0, none⟩ = some (.int .i64 q) := (hb1.cell (by simp <;> omega)).trans (by go_simp)
  have c_m_1 : w1.cell? ⟨w.heap.size, 1, none⟩ = some (.int .i64 d) := (hb1.cell (by simp <;> omega)).trans (by go_simp)
  have c_m_2 : w1.cell? ⟨w.heap.size, 2, none⟩ = some (.slice p gs.length cap) := (hb1.cell (by simp <;> omega)).trans (by go_simp)
  have c_a_0 : w1.cell? ⟨w.heap.size + 1, 0, none⟩ = some (.int .i64 a) := (hb1.cell (by simp <;> omega)).trans (by go_simp)
  have c_a_1 : w1.cell? ⟨w.heap.size + 1, 1, none⟩ = some (.int .i64 b) := (hb1.cell (by simp <;> omega)).trans (by go_simp)
  have c_n_0 : w1.cell? ⟨w.heap.size + 1 + 1, 0, none⟩ = some (.int .i64 c) := (hb1.cell (by simp <;> omega)).trans (by go_simp)
  have c_n_1 : w1.cell? ⟨w.heap.size + 1 + 1, 1, none⟩ = some (.int .i64 e) := (hb1.cell (by simp <;> omega)).trans (by go_simp)
  have z_a := World.block_lt_of_cell? _ _ c_a_0
  have z_m := World.block_lt_of_cell? _ _ c_m_0
  have z_n := World.block_lt_of_cell? _ _ c_n_0
  have hB1 := below_two hB0 hs1
  clear hB0 hs1 hb1
  have HP1 := Lib.hid hP1
  clear hP1
  go_wp2_with fail
  refine (refWithin_is (HI.out.later hB1) hr HIA.out.1 HIA.out.2.1 h1).mono ?_
  rintro e w2 ⟨rfl, hb2⟩
  have hs2 := hb2
  replace HP1 := Lib.hid (HP1.out.later hs2)
  replace c_m_0 := cell_later hs2 c_m_0
  replace c_m_1 := cell_later hs2 c_m_1
  replace c_m_2 := cell_later hs2 c_m_2
  replace c_a_0 := cell_later hs2 c_a_0
  replace c_a_1 := cell_later hs2 c_a_1
  replace c_n_0 := cell_later hs2 c_n_0
  replace c_n_1 := cell_later hs2 c_n_1
  clear z_a
  have z_a := World.block_lt_of_cell? _ _ c_a_0
  clear z_m
  have z_m := World.block_lt_of_cell? _ _ c_m_0
  clear z_n
  have z_n := World.block_lt_of_cell? _ _ c_n_0
  have hB2 := below_two hB1 hs2
  clear hB1 hs2
  go_wp2_with fail
  refine (refRightP HIA.out.2.2.1 HIA.out.2.2.2 h2 _).mono ?_
  rintro e w3 ⟨rfl, hb3⟩
  have hs3 := hb3
  replace HP1 := Lib.hid (HP1.out.later hs3)
  replace c_m_0 := cell_later hs3 c_m_0
  replace c_m_1 := cell_later hs3 c_m_1
  replace c_m_2 := cell_later hs3 c_m_2
  replace c_a_0 := cell_later hs3 c_a_0
  replace c_a_1 := cell_later hs3 c_a_1
  replace c_n_0 := cell_later hs3 c_n_0
  replace c_n_1 := cell_later hs3 c_n_1
  clear z_a
  have z_a := World.block_lt_of_cell? _ _ c_a_0
  clear z_m
  have z_m := World.block_lt_of_cell? _ _ c_m_0
  clear z_n
  have z_n := World.block_lt_of_cell? _ _ c_n_0
  have hB3 := below_two hB2 hs3
  clear hB2 hs3
  go_wp2
  go_ret2
  exact ⟨rfl, hB3⟩

set_option maxRecDepth 100000 in
set_option maxHeartbeats 4000000 in
theorem refCut_out3 (q d : Int) (v : Value) (gs : List Int) (a b c e : Int) (w : World) (hI : Ints w v gs) (ia : Rat.I64 a) (ib : Rat.I64 b) (ic : Rat.I64 c) (ie : Rat.I64 e) (hr : Met.right q d gs = true) (h1 : Met.inB q d (a, b) = true) (h2 : Met.ok (c, e) = true) (h3 : c ≤ 0) :
    Calls Try.prog 25 #[mt q d v, rt a b, rt c e] w fun ed w' => ed = .returned (.tuple #[.slice none 0 0, .int .i64 2]) ∧ Below w.heap.size w w' := by
  obtain ⟨p, cap, rfl, hl, hc⟩ := hI
  have HI : Hid (Ints w (.slice p gs.length cap) gs) := Lib.hid ⟨p, cap, rfl, hl, hc⟩
  have HIA := Lib.hid (And.intro ia (And.intro ib (And.intro ic ie)))
  clear hl hc ia ib ic ie
  have hlen := (Met.isRight hr).len
  rw [← Met.bts_length d] at hlen
  have HRB := Lib.hid (bt_i64 hr)
  obtain ⟨L, HL⟩ : ∃ L, Hid (Met.bt q d gs = L) := ⟨_, Lib.hid rfl⟩
  rw [show Met.bts d (Met.grp q d gs) = L from HL.out] at hlen
  rw [HL.out] at HRB
  obtain ⟨hlen1, hlen2⟩ := hlen
  have hB0 : Below w.heap.size w w := Below.refl _ _
  go_enter Try.func25, Try.ntmps25
  go_wp2_with fail
  refine (refBeats_right (HI.out.later (((hB0.alloc hB0.size (.cells #[.int .i64 q, .int .i64 d, .slice p gs.length cap] 24)).alloc (hB0.alloc hB0.size (.cells #[.int .i64 q, .int .i64 d, .slice p gs.length cap] 24)).size (.cells #[.int .i64 a, .int .i64 b] 26)).alloc ((hB0.alloc hB0.size (.cells #[.int .i64 q, .int .i64 d, .slice p gs.length cap] 24)).alloc (hB0.alloc hB0.size (.cells #[.int .i64 q, .int .i64 d, .slice p gs.length cap] 24)).size (.cells #[.int .i64 a, .int .i64 b] 26)).size (.cells #[.int .i64 c, .int .i64 e] 26))) hr HL.out).mono ?_
  rintro e w1 ⟨⟨u1, rfl, hP1⟩, hb1⟩
  have hs1 : Below w.heap.size w w1 := Below.trans (by repeat (first | exact Below.refl _ _ | refine Below.alloc ?_ (by simp <;> omega) _)) (hb1.mono (by simp <;> omega))
  have c_m_0 : w1.cell? ⟨w.heap.size, 0, none⟩ = some (.int .i64 q) := (hb1.cell (by simp <;> omega)).trans (by go_simp)
  have c_m_1 : w1.cell? ⟨w.heap.size, 1, none⟩ = some (.int .i64 d) := (hb1.cell (by simp <;> omega)).trans (by go_simp)
  have c_m_2 : w1.cell? ⟨w.heap.size, 2, none⟩ = some (.slice p gs.length cap) := (hb1.cell (by simp <;> omega)).trans (by go_simp)
  have c_a_0 : w1.cell? ⟨w.heap.size + 1, 0, none⟩ = some (.int .i64 a) := (hb1.cell (by simp <;> omega)).trans (by go_simp)
  have c_a_1 : w1.cell? ⟨w.heap.size + 1, 1, none⟩ = some (.int .i64 b) := (hb1.cell (by simp <;> omega)).trans (by go_simp)
  have c_n_0 : w1.cell? ⟨w.heap.size + 1 + 1, 0, none⟩ = some (.int .i64 c) := (hb1.cell (by simp <;> omega)).trans (by go_simp)
  have c_n_1 : w1.cell? ⟨w.heap.size + 1 + 1, 1, none⟩ = some (.int .i64 e) := (hb1.cell (by simp <;> omega)).trans (by go_simp)
  have z_a := World.block_lt_of_cell? _ _ c_a_0
  have z_m := World.block_lt_of_cell? _ _ c_m_0
  have z_n := World.block_lt_of_cell? _ _ c_n_0
  have hB1 := below_two hB0 hs1
  clear hB0 hs1 hb1
  have HP1 := Lib.hid hP1
  clear hP1
  go_wp2_with fail
  refine (refWithin_is (HI.out.later hB1) hr HIA.out.1 HIA.out.2.1 h1).mono ?_
  rintro e w2 ⟨rfl, hb2⟩
  have hs2 := hb2
  replace HP1 := Lib.hid (HP1.out.later hs2)
  replace c_m_0 := cell_later hs2 c_m_0
  replace c_m_1 := cell_later hs2 c_m_1
  replace c_m_2 := cell_later hs2 c_m_2
  replace c_a_0 := cell_later hs2 c_a_0
  replace c_a_1 := cell_later hs2 c_a_1
  replace c_n_0 := cell_later hs2 c_n_0
  replace c_n_1 := cell_later hs2 c_n_1
  clear z_a
  have z_a := World.block_lt_of_cell? _ _ c_a_0
  clear z_m
  have z_m := World.block_lt_of_cell? _ _ c_m_0
  clear z_n
  have z_n := World.block_lt_of_cell? _ _ c_n_0
  have hB2 := below_two hB1 hs2
  clear hB1 hs2
  go_wp2_with fail
  refine (refRightP HIA.out.2.2.1 HIA.out.2.2.2 h2 _).mono ?_
  rintro e w3 ⟨rfl, hb3⟩
  have hs3 := hb3
  replace HP1 := Lib.hid (HP1.out.later hs3)
  replace c_m_0 := cell_later hs3 c_m_0
  replace c_m_1 := cell_later hs3 c_m_1
  replace c_m_2 := cell_later hs3 c_m_2
  replace c_a_0 := cell_later hs3 c_a_0
  replace c_a_1 := cell_later hs3 c_a_1
  replace c_n_0 := cell_later hs3 c_n_0
  replace c_n_1 := cell_later hs3 c_n_1
  clear z_a
  have z_a := World.block_lt_of_cell? _ _ c_a_0
  clear z_m
  have z_m := World.block_lt_of_cell? _ _ c_m_0
  clear z_n
  have z_n := World.block_lt_of_cell? _ _ c_n_0
  have hB3 := below_two hB2 hs3
  clear hB2 hs3
  go_wp2
  go_ret2
  exact ⟨rfl, hB3⟩

set_option maxRecDepth 100000 in
set_option maxHeartbeats 4000000 in
theorem refCut_add (q d : Int) (v : Value) (gs : List Int) (a b c e : Int) (w : World) (hI : Ints w v gs) (ia : Rat.I64 a) (ib : Rat.I64 b) (ic : Rat.I64 c) (ie : Rat.I64 e) (hr : Met.right q d gs = true) (h1 : Met.inB q d (a, b) = true) (h2 : Met.ok (c, e) = true) (h3 : 0 < c) (E : Int) (HE : Hid (Met.adE (a, b) (c, e) = E)) (h4 : (E != 0) = true) :
    Calls Try.prog 25 #[mt q d v, rt a b, rt c e] w fun ed w' => ed = .returned (.tuple #[.slice none 0 0, .int .i64 E]) ∧ Below w.heap.size w w' := by
  obtain ⟨p, cap, rfl, hl, hc⟩ := hI
  have HI : Hid (Ints w (.slice p gs.length cap) gs) := Lib.hid ⟨p, cap, rfl, hl, hc⟩
  have HIA := Lib.hid (And.intro ia (And.intro ib (And.intro ic ie)))
  clear hl hc ia ib ic ie
  have hlen := (Met.isRight hr).len
  rw [← Met.bts_length d] at hlen
  have HRB := Lib.hid (bt_i64 hr)
  obtain ⟨L, HL⟩ : ∃ L, Hid (Met.bt q d gs = L) := ⟨_, Lib.hid rfl⟩
  rw [show Met.bts d (Met.grp q d gs) = L from HL.out] at hlen
  rw [HL.out] at HRB
  obtain ⟨hlen1, hlen2⟩ := hlen
  have HYI := Lib.hid (ad_i64 (a, b) (c, e))
  obtain ⟨Y, HY⟩ : ∃ Y, Hid (Met.ad (a, b) (c, e) = Y) := ⟨_, Lib.hid rfl⟩
  rw [HY.out] at HYI
  obtain ⟨y0, y1⟩ := Y
  dsimp only at HYI
  have hB0 : Below w.heap.size w w := Below.refl _ _
  go_enter Try.func25, Try.ntmps25
  go_wp2_with fail
  refine (refBeats_right (HI.out.later (((hB0.alloc hB0.size (.cells #[.int .i64 q, .int .i64 d, .slice p gs.length cap] 24)).alloc (hB0.alloc hB0.size (.cells #[.int .i64 q, .int .i64 d, .slice p gs.length cap] 24)).size (.cells #[.int .i64 a, .int .i64 b] 26)).alloc ((hB0.alloc hB0.size (.cells #[.int .i64 q, .int .i64 d, .slice p gs.length cap] 24)).alloc (hB0.alloc hB0.size (.cells #[.int .i64 q, .int .i64 d, .slice p gs.length cap] 24)).size (.cells #[.int .i64 a, .int .i64 b] 26)).size (.cells #[.int .i64 c, .int .i64 e] 26))) hr HL.out).mono ?_
  rintro e w1 ⟨⟨u1, rfl, hP1⟩, hb1⟩
  have hs1 : Below w.heap.size w w1 := Below.trans (by repeat (first | exact Below.refl _ _ | refine Below.alloc ?_ (by simp <;> omega) _)) (hb1.mono (by simp <;> omega))
  have c_m_0 : w1.cell? ⟨w.heap.size, 0, none⟩ = some (.int .i64 q) := (hb1.cell (by simp <;> omega)).trans (by go_simp)
  have c_m_1 : w1.cell? ⟨w.heap.size, 1, none⟩ = some (.int .i64 d) := (hb1.cell (by simp <;> omega)).trans (by go_simp)
  have c_m_2 : w1.cell? ⟨w.heap.size, 2, none⟩ = some (.slice p gs.length cap) := (hb1.cell (by simp <;> omega)).trans (by go_simp)
  have c_a_0 : w1.cell? ⟨w.heap.size + 1, 0, none⟩ = some (.int .i64 a) := (hb1.cell (by simp <;> omega)).trans (by go_simp)
  have c_a_1 : w1.cell? ⟨w.heap.size + 1, 1, none⟩ = some (.int .i64 b) := (hb1.cell (by simp <;> omega)).trans (by go_simp)
  have c_n_0 : w1.cell? ⟨w.heap.size + 1 + 1, 0, none⟩ = some (.int .i64 c) := (hb1.cell (by simp <;> omega)).trans (by go_simp)
  have c_n_1 : w1.cell? ⟨w.heap.size + 1 + 1, 1, none⟩ = some (.int .i64 e) := (hb1.cell (by simp <;> omega)).trans (by go_simp)
  have z_a := World.block_lt_of_cell? _ _ c_a_0
  have z_m := World.block_lt_of_cell? _ _ c_m_0
  have z_n := World.block_lt_of_cell? _ _ c_n_0
  have hB1 := below_two hB0 hs1
  clear hB0 hs1 hb1
  have HP1 := Lib.hid hP1
  clear hP1
  go_wp2_with fail
  refine (refWithin_is (HI.out.later hB1) hr HIA.out.1 HIA.out.2.1 h1).mono ?_
  rintro e w2 ⟨rfl, hb2⟩
  have hs2 := hb2
  replace HP1 := Lib.hid (HP1.out.later hs2)
  replace c_m_0 := cell_later hs2 c_m_0
  replace c_m_1 := cell_later hs2 c_m_1
  replace c_m_2 := cell_later hs2 c_m_2
  replace c_a_0 := cell_later hs2 c_a_0
  replace c_a_1 := cell_later hs2 c_a_1
  replace c_n_0 := cell_later hs2 c_n_0
  replace c_n_1 := cell_later hs2 c_n_1
  clear z_a
  have z_a := World.block_lt_of_cell? _ _ c_a_0
  clear z_m
  have z_m := World.block_lt_of_cell? _ _ c_m_0
  clear z_n
  have z_n := World.block_lt_of_cell? _ _ c_n_0
  have hB2 := below_two hB1 hs2
  clear hB1 hs2
  go_wp2_with fail
  refine (refRightP HIA.out.2.2.1 HIA.out.2.2.2 h2 _).mono ?_
  rintro e w3 ⟨rfl, hb3⟩
  have hs3 := hb3
  replace HP1 := Lib.hid (HP1.out.later hs3)
  replace c_m_0 := cell_later hs3 c_m_0
  replace c_m_1 := cell_later hs3 c_m_1
  replace c_m_2 := cell_later hs3 c_m_2
  replace c_a_0 := cell_later hs3 c_a_0
  replace c_a_1 := cell_later hs3 c_a_1
  replace c_n_0 := cell_later hs3 c_n_0
  replace c_n_1 := cell_later hs3 c_n_1
  clear z_a
  have z_a := World.block_lt_of_cell? _ _ c_a_0
  clear z_m
  have z_m := World.block_lt_of_cell? _ _ c_m_0
  clear z_n
  have z_n := World.block_lt_of_cell? _ _ c_n_0
  have hB3 := below_two hB2 hs3
  clear hB2 hs3
  go_wp2_with fail
  refine (refAddP (a, b) (c, e) HIA.out.1 HIA.out.2.1 HIA.out.2.2.1 HIA.out.2.2.2 _).mono ?_
  rintro e w4 ⟨rfl, hb4⟩
  have hs4 := hb4
  replace HP1 := Lib.hid (HP1.out.later hs4)
  replace c_m_0 := cell_later hs4 c_m_0
  replace c_m_1 := cell_later hs4 c_m_1
  replace c_m_2 := cell_later hs4 c_m_2
  replace c_a_0 := cell_later hs4 c_a_0
  replace c_a_1 := cell_later hs4 c_a_1
  replace c_n_0 := cell_later hs4 c_n_0
  replace c_n_1 := cell_later hs4 c_n_1
  clear z_a
  have z_a := World.block_lt_of_cell? _ _ c_a_0
  clear z_m
  have z_m := World.block_lt_of_cell? _ _ c_m_0
  clear z_n
  have z_n := World.block_lt_of_cell? _ _ c_n_0
  have hB4 := below_two hB3 hs4
  clear hB3 hs4
  rw [HY.out, HE.out]
  dsimp only
  go_wp2
  go_ret2
  exact ⟨rfl, hB4.alloc hB4.size _⟩

set_option maxRecDepth 100000 in
set_option maxHeartbeats 4000000 in
theorem refCut_big (q d : Int) (v : Value) (gs : List Int) (a b c e : Int) (w : World) (hI : Ints w v gs) (ia : Rat.I64 a) (ib : Rat.I64 b) (ic : Rat.I64 c) (ie : Rat.I64 e) (hr : Met.right q d gs = true) (h1 : Met.inB q d (a, b) = true) (h2 : Met.ok (c, e) = true) (h3 : 0 < c) (HE : Hid (Met.adE (a, b) (c, e) = 0)) (m : Int) (HM : Hid (Met.cm (Met.ad (a, b) (c, e)) (Met.of q d) = m)) (h5 : 0 < m) :
    Calls Try.prog 25 #[mt q d v, rt a b, rt c e] w fun ed w' => ed = .returned (.tuple #[.slice none 0 0, .int .i64 2]) ∧ Below w.heap.size w w' := by
  obtain ⟨p, cap, rfl, hl, hc⟩ := hI
  have HI : Hid (Ints w (.slice p gs.length cap) gs) := Lib.hid ⟨p, cap, rfl, hl, hc⟩
  have HIA := Lib.hid (And.intro ia (And.intro ib (And.intro ic ie)))
  clear hl hc ia ib ic ie
  have hlen := (Met.isRight hr).len
  rw [← Met.bts_length d] at hlen
  have HRB := Lib.hid (bt_i64 hr)
  obtain ⟨L, HL⟩ : ∃ L, Hid (Met.bt q d gs = L) := ⟨_, Lib.hid rfl⟩
  rw [show Met.bts d (Met.grp q d gs) = L from HL.out] at hlen
  rw [HL.out] at HRB
  obtain ⟨hlen1, hlen2⟩ := hlen
  have HYI := Lib.hid (ad_i64 (a, b) (c, e))
  obtain ⟨Y, HY⟩ : ∃ Y, Hid (Met.ad (a, b) (c, e) = Y) := ⟨_, Lib.hid rfl⟩
  rw [HY.out] at HYI
  obtain ⟨y0, y1⟩ := Y
  dsimp only at HYI
  obtain ⟨X, HX⟩ : ∃ X, Hid (Met.of q d = X) := ⟨_, Lib.hid rfl⟩
  obtain ⟨x, y⟩ := X
  have HIX : Hid (Rat.I64 x ∧ Rat.I64 y) := Lib.hid (by have := of_i64 hr; rw [HX.out] at this; exact this)
  rw [HY.out, HX.out] at HM
  have hB0 : Below w.heap.size w w := Below.refl _ _
  go_enter Try.func25, Try.ntmps25
  go_wp2_with fail
  refine (refBeats_right (HI.out.later (((hB0.alloc hB0.size (.cells #[.int .i64 q, .int .i64 d, .slice p gs.length cap] 24)).alloc (hB0.alloc hB0.size (.cells #[.int .i64 q, .int .i64 d, .slice p gs.length cap] 24)).size (.cells #[.int .i64 a, .int .i64 b] 26)).alloc ((hB0.alloc hB0.size (.cells #[.int .i64 q, .int .i64 d, .slice p gs.length cap] 24)).alloc (hB0.alloc hB0.size (.cells #[.int .i64 q, .int .i64 d, .slice p gs.length cap] 24)).size (.cells #[.int .i64 a, .int .i64 b] 26)).size (.cells #[.int .i64 c, .int .i64 e] 26))) hr HL.out).mono ?_
  rintro e w1 ⟨⟨u1, rfl, hP1⟩, hb1⟩
  have hs1 : Below w.heap.size w w1 := Below.trans (by repeat (first | exact Below.refl _ _ | refine Below.alloc ?_ (by simp <;> omega) _)) (hb1.mono (by simp <;> omega))
  have c_m_0 : w1.cell? ⟨w.heap.size, 0, none⟩ = some (.int .i64 q) := (hb1.cell (by simp <;> omega)).trans (by go_simp)
  have c_m_1 : w1.cell? ⟨w.heap.size, 1, none⟩ = some (.int .i64 d) := (hb1.cell (by simp <;> omega)).trans (by go_simp)
  have c_m_2 : w1.cell? ⟨w.heap.size, 2, none⟩ = some (.slice p gs.length cap) := (hb1.cell (by simp <;> omega)).trans (by go_simp)
  have c_a_0 : w1.cell? ⟨w.heap.size + 1, 0, none⟩ = some (.int .i64 a) := (hb1.cell (by simp <;> omega)).trans (by go_simp)
  have c_a_1 : w1.cell? ⟨w.heap.size + 1, 1, none⟩ = some (.int .i64 b) := (hb1.cell (by simp <;> omega)).trans (by go_simp)
  have c_n_0 : w1.cell? ⟨w.heap.size + 1 + 1, 0, none⟩ = some (.int .i64 c) := (hb1.cell (by simp <;> omega)).trans (by go_simp)
  have c_n_1 : w1.cell? ⟨w.heap.size + 1 + 1, 1, none⟩ = some (.int .i64 e) := (hb1.cell (by simp <;> omega)).trans (by go_simp)
  have z_a := World.block_lt_of_cell? _ _ c_a_0
  have z_m := World.block_lt_of_cell? _ _ c_m_0
  have z_n := World.block_lt_of_cell? _ _ c_n_0
  have hB1 := below_two hB0 hs1
  clear hB0 hs1 hb1
  have HP1 := Lib.hid hP1
  clear hP1
  go_wp2_with fail
  refine (refWithin_is (HI.out.later hB1) hr HIA.out.1 HIA.out.2.1 h1).mono ?_
  rintro e w2 ⟨rfl, hb2⟩
  have hs2 := hb2
  replace HP1 := Lib.hid (HP1.out.later hs2)
  replace c_m_0 := cell_later hs2 c_m_0
  replace c_m_1 := cell_later hs2 c_m_1
  replace c_m_2 := cell_later hs2 c_m_2
  replace c_a_0 := cell_later hs2 c_a_0
  replace c_a_1 := cell_later hs2 c_a_1
  replace c_n_0 := cell_later hs2 c_n_0
  replace c_n_1 := cell_later hs2 c_n_1
  clear z_a
  have z_a := World.block_lt_of_cell? _ _ c_a_0
  clear z_m
  have z_m := World.block_lt_of_cell? _ _ c_m_0
  clear z_n
  have z_n := World.block_lt_of_cell? _ _ c_n_0
  have hB2 := below_two hB1 hs2
  clear hB1 hs2
  go_wp2_with fail
  refine (refRightP HIA.out.2.2.1 HIA.out.2.2.2 h2 _).mono ?_
  rintro e w3 ⟨rfl, hb3⟩
  have hs3 := hb3
  replace HP1 := Lib.hid (HP1.out.later hs3)
  replace c_m_0 := cell_later hs3 c_m_0
  replace c_m_1 := cell_later hs3 c_m_1
  replace c_m_2 := cell_later hs3 c_m_2
  replace c_a_0 := cell_later hs3 c_a_0
  replace c_a_1 := cell_later hs3 c_a_1
  replace c_n_0 := cell_later hs3 c_n_0
  replace c_n_1 := cell_later hs3 c_n_1
  clear z_a
  have z_a := World.block_lt_of_cell? _ _ c_a_0
  clear z_m
  have z_m := World.block_lt_of_cell? _ _ c_m_0
  clear z_n
  have z_n := World.block_lt_of_cell? _ _ c_n_0
  have hB3 := below_two hB2 hs3
  clear hB2 hs3
  go_wp2_with fail
  refine (refAddP (a, b) (c, e) HIA.out.1 HIA.out.2.1 HIA.out.2.2.1 HIA.out.2.2.2 _).mono ?_
  rintro e w4 ⟨rfl, hb4⟩
  have hs4 := hb4
  replace HP1 := Lib.hid (HP1.out.later hs4)
  replace c_m_0 := cell_later hs4 c_m_0
  replace c_m_1 := cell_later hs4 c_m_1
  replace c_m_2 := cell_later hs4 c_m_2
  replace c_a_0 := cell_later hs4 c_a_0
  replace c_a_1 := cell_later hs4 c_a_1
  replace c_n_0 := cell_later hs4 c_n_0
  replace c_n_1 := cell_later hs4 c_n_1
  clear z_a
  have z_a := World.block_lt_of_cell? _ _ c_a_0
  clear z_m
  have z_m := World.block_lt_of_cell? _ _ c_m_0
  clear z_n
  have z_n := World.block_lt_of_cell? _ _ c_n_0
  have hB4 := below_two hB3 hs4
  clear hB3 hs4
  rw [HY.out, HE.out]
  dsimp only
  go_wp2_with fail
  refine (refLength_right (HI.out.later (hB4.alloc hB4.size (.cells #[.int .i64 y0, .int .i64 y1] 26))) hr HX.out).mono ?_
  rintro e w5 ⟨rfl, hb5⟩
  have hs5 : Below w4.heap.size w4 w5 := Below.trans (by repeat (first | exact Below.refl _ _ | refine Below.alloc ?_ (by simp <;> omega) _)) (hb5.mono (by simp <;> omega))
  replace HP1 := Lib.hid (HP1.out.later hs5)
  replace c_m_0 := cell_later hs5 c_m_0
  replace c_m_1 := cell_later hs5 c_m_1
  replace c_m_2 := cell_later hs5 c_m_2
  replace c_a_0 := cell_later hs5 c_a_0
  replace c_a_1 := cell_later hs5 c_a_1
  replace c_n_0 := cell_later hs5 c_n_0
  replace c_n_1 := cell_later hs5 c_n_1
  have c_z_0 : w5.cell? ⟨w4.heap.size, 0, none⟩ = some (.int .i64 y0) := (hb5.cell (by simp <;> omega)).trans (by go_simp)
  have c_z_1 : w5.cell? ⟨w4.heap.size, 1, none⟩ = some (.int .i64 y1) := (hb5.cell (by simp <;> omega)).trans (by go_simp)
  clear z_a
  have z_a := World.block_lt_of_cell? _ _ c_a_0
  clear z_m
  have z_m := World.block_lt_of_cell? _ _ c_m_0
  clear z_n
  have z_n := World.block_lt_of_cell? _ _ c_n_0
  have z_z := World.block_lt_of_cell? _ _ c_z_0
  have hB5 := below_two hB4 hs5
  clear hB4 hs5 hb5
  go_wp2_with fail
  refine (refCompareI HYI.out HIX.out HM.out _).mono ?_
  rintro e w6 ⟨rfl, hb6⟩
  have hs6 : Below w5.heap.size w5 w6 := Below.trans (by repeat (first | exact Below.refl _ _ | refine Below.alloc ?_ (by simp <;> omega) _)) (hb6.mono (by simp <;> omega))
  replace HP1 := Lib.hid (HP1.out.later hs6)
  replace c_m_0 := cell_later hs6 c_m_0
  replace c_m_1 := cell_later hs6 c_m_1
  replace c_m_2 := cell_later hs6 c_m_2
  replace c_a_0 := cell_later hs6 c_a_0
  replace c_a_1 := cell_later hs6 c_a_1
  replace c_n_0 := cell_later hs6 c_n_0
  replace c_n_1 := cell_later hs6 c_n_1
  replace c_z_0 := cell_later hs6 c_z_0
  replace c_z_1 := cell_later hs6 c_z_1
  have c_l_0 : w6.cell? ⟨w5.heap.size, 0, none⟩ = some (.int .i64 x) := (hb6.cell (by simp <;> omega)).trans (by go_simp)
  have c_l_1 : w6.cell? ⟨w5.heap.size, 1, none⟩ = some (.int .i64 y) := (hb6.cell (by simp <;> omega)).trans (by go_simp)
  clear z_a
  have z_a := World.block_lt_of_cell? _ _ c_a_0
  have z_l := World.block_lt_of_cell? _ _ c_l_0
  clear z_m
  have z_m := World.block_lt_of_cell? _ _ c_m_0
  clear z_n
  have z_n := World.block_lt_of_cell? _ _ c_n_0
  clear z_z
  have z_z := World.block_lt_of_cell? _ _ c_z_0
  have hB6 := below_two hB5 hs6
  clear hB5 hs6 hb6
  go_wp2
  go_ret2
  exact ⟨rfl, hB6⟩

set_option maxRecDepth 100000 in
set_option maxHeartbeats 4000000 in
theorem refCut_yes (q d : Int) (v : Value) (gs : List Int) (a b c e : Int) (w : World) (hI : Ints w v gs) (ia : Rat.I64 a) (ib : Rat.I64 b) (ic : Rat.I64 c) (ie : Rat.I64 e) (hr : Met.right q d gs = true) (h1 : Met.inB q d (a, b) = true) (h2 : Met.ok (c, e) = true) (h3 : 0 < c) (HE : Hid (Met.adE (a, b) (c, e) = 0)) (m : Int) (HM : Hid (Met.cm (Met.ad (a, b) (c, e)) (Met.of q d) = m)) (h5 : m ≤ 0) :
    Calls Try.prog 25 #[mt q d v, rt a b, rt c e] w fun ed w' => (∃ u, ed = .returned (.tuple #[u, .int .i64 (Met.pcs q d gs (a, b) (Met.ad (a, b) (c, e))).1]) ∧ Prs w' u (Met.pcs q d gs (a, b) (Met.ad (a, b) (c, e))).2) ∧ Below w.heap.size w w' := by
  obtain ⟨p, cap, rfl, hl, hc⟩ := hI
  have HI : Hid (Ints w (.slice p gs.length cap) gs) := Lib.hid ⟨p, cap, rfl, hl, hc⟩
  have HIA := Lib.hid (And.intro ia (And.intro ib (And.intro ic ie)))
  clear hl hc ia ib ic ie
  have hlen := (Met.isRight hr).len
  rw [← Met.bts_length d] at hlen
  have HRB := Lib.hid (bt_i64 hr)
  obtain ⟨L, HL⟩ : ∃ L, Hid (Met.bt q d gs = L) := ⟨_, Lib.hid rfl⟩
  rw [show Met.bts d (Met.grp q d gs) = L from HL.out] at hlen
  rw [HL.out] at HRB
  obtain ⟨hlen1, hlen2⟩ := hlen
  have HYI := Lib.hid (ad_i64 (a, b) (c, e))
  obtain ⟨Y, HY⟩ : ∃ Y, Hid (Met.ad (a, b) (c, e) = Y) := ⟨_, Lib.hid rfl⟩
  rw [HY.out] at HYI
  obtain ⟨y0, y1⟩ := Y
  dsimp only at HYI
  obtain ⟨X, HX⟩ : ∃ X, Hid (Met.of q d = X) := ⟨_, Lib.hid rfl⟩
  obtain ⟨x, y⟩ := X
  have HIX : Hid (Rat.I64 x ∧ Rat.I64 y) := Lib.hid (by have := of_i64 hr; rw [HX.out] at this; exact this)
  rw [HY.out, HX.out] at HM
  rw [HY.out, Met.pcs_eq (Met.isRight hr) (inB_ok h1).1, HL.out]
  obtain ⟨PL, HPL⟩ : ∃ PL, Hid ((a, b) :: (Met.mid (a, b) (y0, y1) L ++ [(y0, y1)]) = PL) := ⟨_, Lib.hid rfl⟩
  rw [HPL.out]
  have HRP : Hid (∀ x ∈ PL, Rat.I64 x.1 ∧ Rat.I64 x.2) := Lib.hid (by
    rw [← HPL.out]
    intro x hx
    rcases List.mem_cons.1 hx with rfl | hx
    · exact ⟨HIA.out.1, HIA.out.2.1⟩
    · rcases List.mem_append.1 hx with hx | hx
      · exact HRB.out x (List.mem_filter.1 hx).1
      · simp at hx; subst hx; exact HYI.out)
  have hpl : 2 ≤ PL.length ∧ PL.length ≤ 34 := by
    rw [← HPL.out]; have := List.length_filter_le (fun b_1 => decide (0 < Met.cm b_1 (a, b)) && decide (Met.cm b_1 (y0, y1) < 0)) L
    simp [Met.mid]; omega
  obtain ⟨hpl1, hpl2⟩ := hpl
  have HP0 : Hid (Met.comb [] (Met.pcR PL) = Met.pcR PL) := Lib.hid (by
    rw [← HPL.out]
    cases hm : Met.mid (a, b) (y0, y1) L with
    | nil => exact comb_nil _ _ _
    | cons f t => exact comb_nil _ _ _)
  obtain ⟨PP, HPP⟩ : ∃ PP, Hid (Met.pcR PL = PP) := ⟨_, Lib.hid rfl⟩
  rw [HPP.out]
  obtain ⟨E, LO⟩ := PP
  dsimp only
  obtain ⟨i0, hi, hz0, hz1, hz2⟩ := info_parts infoR
  have hB0 : Below w.heap.size w w := Below.refl _ _
  go_enter Try.func25, Try.ntmps25
  go_wp2_with fail
  refine (refBeats_right (HI.out.later (((hB0.alloc hB0.size (.cells #[.int .i64 q, .int .i64 d, .slice p gs.length cap] 24)).alloc (hB0.alloc hB0.size (.cells #[.int .i64 q, .int .i64 d, .slice p gs.length cap] 24)).size (.cells #[.int .i64 a, .int .i64 b] 26)).alloc ((hB0.alloc hB0.size (.cells #[.int .i64 q, .int .i64 d, .slice p gs.length cap] 24)).alloc (hB0.alloc hB0.size (.cells #[.int .i64 q, .int .i64 d, .slice p gs.length cap] 24)).size (.cells #[.int .i64 a, .int .i64 b] 26)).size (.cells #[.int .i64 c, .int .i64 e] 26))) hr HL.out).mono ?_
  rintro e w1 ⟨⟨u1, rfl, hP1⟩, hb1⟩
  have hs1 : Below w.heap.size w w1 := Below.trans (by repeat (first | exact Below.refl _ _ | refine Below.alloc ?_ (by simp <;> omega) _)) (hb1.mono (by simp <;> omega))
  have c_m_0 : w1.cell? ⟨w.heap.size, 0, none⟩ = some (.int .i64 q) := (hb1.cell (by simp <;> omega)).trans (by go_simp)
  have c_m_1 : w1.cell? ⟨w.heap.size, 1, none⟩ = some (.int .i64 d) := (hb1.cell (by simp <;> omega)).trans (by go_simp)
  have c_m_2 : w1.cell? ⟨w.heap.size, 2, none⟩ = some (.slice p gs.length cap) := (hb1.cell (by simp <;> omega)).trans (by go_simp)
  have c_a_0 : w1.cell? ⟨w.heap.size + 1, 0, none⟩ = some (.int .i64 a) := (hb1.cell (by simp <;> omega)).trans (by go_simp)
  have c_a_1 : w1.cell? ⟨w.heap.size + 1, 1, none⟩ = some (.int .i64 b) := (hb1.cell (by simp <;> omega)).trans (by go_simp)
  have c_n_0 : w1.cell? ⟨w.heap.size + 1 + 1, 0, none⟩ = some (.int .i64 c) := (hb1.cell (by simp <;> omega)).trans (by go_simp)
  have c_n_1 : w1.cell? ⟨w.heap.size + 1 + 1, 1, none⟩ = some (.int .i64 e) := (hb1.cell (by simp <;> omega)).trans (by go_simp)
  have z_a := World.block_lt_of_cell? _ _ c_a_0
  have z_m := World.block_lt_of_cell? _ _ c_m_0
  have z_n := World.block_lt_of_cell? _ _ c_n_0
  have hB1 := below_two hB0 hs1
  clear hB0 hs1 hb1
  have HP1 := Lib.hid hP1
  clear hP1
  go_wp2_with fail
  refine (refWithin_is (HI.out.later hB1) hr HIA.out.1 HIA.out.2.1 h1).mono ?_
  rintro e w2 ⟨rfl, hb2⟩
  have hs2 := hb2
  replace HP1 := Lib.hid (HP1.out.later hs2)
  replace c_m_0 := cell_later hs2 c_m_0
  replace c_m_1 := cell_later hs2 c_m_1
  replace c_m_2 := cell_later hs2 c_m_2
  replace c_a_0 := cell_later hs2 c_a_0
  replace c_a_1 := cell_later hs2 c_a_1
  replace c_n_0 := cell_later hs2 c_n_0
  replace c_n_1 := cell_later hs2 c_n_1
  clear z_a
  have z_a := World.block_lt_of_cell? _ _ c_a_0
  clear z_m
  have z_m := World.block_lt_of_cell? _ _ c_m_0
  clear z_n
  have z_n := World.block_lt_of_cell? _ _ c_n_0
  have hB2 := below_two hB1 hs2
  clear hB1 hs2
  go_wp2_with fail
  refine (refRightP HIA.out.2.2.1 HIA.out.2.2.2 h2 _).mono ?_
  rintro e w3 ⟨rfl, hb3⟩
  have hs3 := hb3
  replace HP1 := Lib.hid (HP1.out.later hs3)
  replace c_m_0 := cell_later hs3 c_m_0
  replace c_m_1 := cell_later hs3 c_m_1
  replace c_m_2 := cell_later hs3 c_m_2
  replace c_a_0 := cell_later hs3 c_a_0
  replace c_a_1 := cell_later hs3 c_a_1
  replace c_n_0 := cell_later hs3 c_n_0
  replace c_n_1 := cell_later hs3 c_n_1
  clear z_a
  have z_a := World.block_lt_of_cell? _ _ c_a_0
  clear z_m
  have z_m := World.block_lt_of_cell? _ _ c_m_0
  clear z_n
  have z_n := World.block_lt_of_cell? _ _ c_n_0
  have hB3 := below_two hB2 hs3
  clear hB2 hs3
  go_wp2_with fail
  refine (refAddP (a, b) (c, e) HIA.out.1 HIA.out.2.1 HIA.out.2.2.1 HIA.out.2.2.2 _).mono ?_
  rintro e w4 ⟨rfl, hb4⟩
  have hs4 := hb4
  replace HP1 := Lib.hid (HP1.out.later hs4)
  replace c_m_0 := cell_later hs4 c_m_0
  replace c_m_1 := cell_later hs4 c_m_1
  replace c_m_2 := cell_later hs4 c_m_2
  replace c_a_0 := cell_later hs4 c_a_0
  replace c_a_1 := cell_later hs4 c_a_1
  replace c_n_0 := cell_later hs4 c_n_0
  replace c_n_1 := cell_later hs4 c_n_1
  clear z_a
  have z_a := World.block_lt_of_cell? _ _ c_a_0
  clear z_m
  have z_m := World.block_lt_of_cell? _ _ c_m_0
  clear z_n
  have z_n := World.block_lt_of_cell? _ _ c_n_0
  have hB4 := below_two hB3 hs4
  clear hB3 hs4
  rw [HY.out, HE.out]
  dsimp only
  go_wp2_with fail
  refine (refLength_right (HI.out.later (hB4.alloc hB4.size (.cells #[.int .i64 y0, .int .i64 y1] 26))) hr HX.out).mono ?_
  rintro e w5 ⟨rfl, hb5⟩
  have hs5 : Below w4.heap.size w4 w5 := Below.trans (by repeat (first | exact Below.refl _ _ | refine Below.alloc ?_ (by simp <;> omega) _)) (hb5.mono (by simp <;> omega))
  replace HP1 := Lib.hid (HP1.out.later hs5)
  replace c_m_0 := cell_later hs5 c_m_0
  replace c_m_1 := cell_later hs5 c_m_1
  replace c_m_2 := cell_later hs5 c_m_2
  replace c_a_0 := cell_later hs5 c_a_0
  replace c_a_1 := cell_later hs5 c_a_1
  replace c_n_0 := cell_later hs5 c_n_0
  replace c_n_1 := cell_later hs5 c_n_1
  have c_z_0 : w5.cell? ⟨w4.heap.size, 0, none⟩ = some (.int .i64 y0) := (hb5.cell (by simp <;> omega)).trans (by go_simp)
  have c_z_1 : w5.cell? ⟨w4.heap.size, 1, none⟩ = some (.int .i64 y1) := (hb5.cell (by simp <;> omega)).trans (by go_simp)
  clear z_a
  have z_a := World.block_lt_of_cell? _ _ c_a_0
  clear z_m
  have z_m := World.block_lt_of_cell? _ _ c_m_0
  clear z_n
  have z_n := World.block_lt_of_cell? _ _ c_n_0
  have z_z := World.block_lt_of_cell? _ _ c_z_0
  have hB5 := below_two hB4 hs5
  clear hB4 hs5 hb5
  go_wp2_with fail
  refine (refCompareI HYI.out HIX.out HM.out _).mono ?_
  rintro e w6 ⟨rfl, hb6⟩
  have hs6 : Below w5.heap.size w5 w6 := Below.trans (by repeat (first | exact Below.refl _ _ | refine Below.alloc ?_ (by simp <;> omega) _)) (hb6.mono (by simp <;> omega))
  replace HP1 := Lib.hid (HP1.out.later hs6)
  replace c_m_0 := cell_later hs6 c_m_0
  replace c_m_1 := cell_later hs6 c_m_1
  replace c_m_2 := cell_later hs6 c_m_2
  replace c_a_0 := cell_later hs6 c_a_0
  replace c_a_1 := cell_later hs6 c_a_1
  replace c_n_0 := cell_later hs6 c_n_0
  replace c_n_1 := cell_later hs6 c_n_1
  replace c_z_0 := cell_later hs6 c_z_0
  replace c_z_1 := cell_later hs6 c_z_1
  have c_l_0 : w6.cell? ⟨w5.heap.size, 0, none⟩ = some (.int .i64 x) := (hb6.cell (by simp <;> omega)).trans (by go_simp)
  have c_l_1 : w6.cell? ⟨w5.heap.size, 1, none⟩ = some (.int .i64 y) := (hb6.cell (by simp <;> omega)).trans (by go_simp)
  clear z_a
  have z_a := World.block_lt_of_cell? _ _ c_a_0
  have z_l := World.block_lt_of_cell? _ _ c_l_0
  clear z_m
  have z_m := World.block_lt_of_cell? _ _ c_m_0
  clear z_n
  have z_n := World.block_lt_of_cell? _ _ c_n_0
  clear z_z
  have z_z := World.block_lt_of_cell? _ _ c_z_0
  have hB6 := below_two hB5 hs6
  clear hB5 hs6 hb6
  obtain ⟨p3, cap3, rfl, hl3, hc3⟩ := HP1.out
  have HC := Lib.hid hc3
  clear hc3 hl3
  clear HP1
  have HAZ := Lib.hid (And.intro c_a_0 (And.intro c_a_1 (And.intro c_z_0 c_z_1)))
  clear c_m_0 c_m_1 c_m_2 z_m c_n_0 c_n_1 z_n c_l_0 c_l_1 z_l
  go_wp2_with fail
  go_loopw [16, 17] (fun l i wr => PlRel (a, b) (y0, y1) L w6 l i wr) (fun _ i _ => L.length - (intOf i).toNat)
  case atStart => exact ⟨0, 0, [], Nat.zero_le _, Nat.le_refl _, rfl, Lib.hid rfl, Lib.hid rfl, Lib.hid (own_one _ _ _), alloc_below (Below.refl _ _)⟩
  case round =>
    obtain ⟨k, nb, lm, hk, hnb, rfl, HN, HM1, HOW, hB⟩ := hrel
    have hsz := hB.size
    replace c_a_0 := cell_later hB c_a_0
    replace c_a_1 := cell_later hB c_a_1
    replace c_z_0 := cell_later hB c_z_0
    replace c_z_1 := cell_later hB c_z_1
    clear z_a z_z
    by_cases hlt : k < L.length
    · obtain ⟨t, ht⟩ : ∃ t, L[k]? = some t := ⟨_, List.getElem?_eq_getElem hlt⟩
      obtain ⟨b1, o1, e1, hcx, hcx'⟩ := HC.out k t ht
      subst e1
      obtain ⟨x0, x1⟩ := t
      dsimp only at hcx hcx'
      have HCX := Lib.hid (And.intro hcx hcx')
      replace hcx := cell_later hB hcx
      replace hcx' := cell_later hB hcx'
      have HT := Lib.hid ht
      have HIT := Lib.hid (HRB.out _ (List.mem_of_getElem? ht))
      have hlt' : (k : Int) < (L.length : Int) := by omega
      clear ht
      dsimp only at HIT
      have HMS := Lib.hid (mid_snoc (u := (a, b)) (v := (y0, y1)) HT.out)
      obtain ⟨m1, HM2⟩ : ∃ m1, Hid (Met.cm (x0, x1) (a, b) = m1) := ⟨_, Lib.hid rfl⟩
      obtain ⟨m2, HM3⟩ : ∃ m2, Hid (Met.cm (x0, x1) (y0, y1) = m2) := ⟨_, Lib.hid rfl⟩
      rw [HM2.out, HM3.out, HM1.out] at HMS
      by_cases g1 : 0 < m1
      · by_cases g2 : m2 < 0
        · rw [if_pos ⟨g1, g2⟩] at HMS
          go_wp2_with fail
          have g_c_a_0 := fun dd os => cell_regrown c_a_0 dd os
          have g_c_a_1 := fun dd os => cell_regrown c_a_1 dd os
          have g_c_z_0 := fun dd os => cell_regrown c_z_0 dd os
          have g_c_z_1 := fun dd os => cell_regrown c_z_1 dd os
          have g_hcx := fun dd os => cell_regrown hcx dd os
          have g_hcx' := fun dd os => cell_regrown hcx' dd os
          have q0 : Hid (∀ dd os, Calls Try.prog 46 #[rt x0 x1, rt a b] (Go.Sort.grow (redrawn wr dd) os) fun e w'' => e = .returned (.int .i64 m1) ∧ ∃ p : Regrown, w'' = Go.Sort.grow (redrawn wr p.d) p.os) := Lib.hid (fun dd os => Calls.regrown_of (refCompareI HIT.out ⟨HIA.out.1, HIA.out.2.1⟩ HM2.out (Go.Sort.grow (redrawn wr dd) os)))
          have q1 : Hid (∀ dd os, Calls Try.prog 46 #[rt x0 x1, rt y0 y1] (Go.Sort.grow (redrawn wr dd) os) fun e w'' => e = .returned (.int .i64 m2) ∧ ∃ p : Regrown, w'' = Go.Sort.grow (redrawn wr p.d) p.os) := Lib.hid (fun dd os => Calls.regrown_of (refCompareI HIT.out HYI.out HM3.out (Go.Sort.grow (redrawn wr dd) os)))
          refine wp_region_quiet_below (by kernel_rfl) (by kernel_rfl) ?_
          repeat (go_big_quiet_step (first | (go_at_call 46; with_reducible exact q0.out _ _) | (go_at_call 46; with_reducible exact q1.out _ _)))
          refine wpQuiet_nil ?_
          intro _ hw'
          obtain ⟨⟨dq, osq⟩, hw''⟩ := hw'
          subst hw''
          replace c_a_0 := g_c_a_0 dq osq
          clear g_c_a_0
          replace c_a_1 := g_c_a_1 dq osq
          clear g_c_a_1
          replace c_z_0 := g_c_z_0 dq osq
          clear g_c_z_0
          replace c_z_1 := g_c_z_1 dq osq
          clear g_c_z_1
          replace hcx := g_hcx dq osq
          clear g_hcx
          replace hcx' := g_hcx' dq osq
          clear g_hcx'
          clear q0 q1
          have hb_wq := below_regrown wr dq osq
          generalize Go.Sort.grow (redrawn wr dq) osq = wq at *
          have hb6 : Below w6.heap.size w6 wq := hB.trans (hb_wq.mono hB.size)
          replace HOW := Lib.hid (own_later HOW.out hb_wq)
          have hsz6 := hb6.size
          have HB6 := Lib.hid hb6
          clear hB hb_wq hb6
          go_wp2_with (first
            | (at_builtin; refine wpList_append_own _ rfl _ _ 33 rfl w6.heap.size 26 i0 (.agg #[.int .i64 0, .int .i64 0]) 2 16 Try.underlying33 hi hz0 hz1 hz2 rfl (by decide) _ _ _ rfl (HOW.out.alloc _) ⟨wq.heap.size, 0, none⟩ 1 1 [.int .i64 x0, .int .i64 x1] rfl rfl (cells2_new _ _ _ _ (by simp)) (one_cell2 _ _) (by unfold maxLen; omega) (by omega) (by simp; omega) ?_)
            | fail)
          intro v' w9 hown9 hgrow _
          have hb9 : Below w6.heap.size (wq.alloc (.cells #[.int .i64 x0, .int .i64 x1] 26)) w9 := (Below.refl _ _).grown hgrow (by simp; omega) (fun k hk => (HOW.out.lt k hk).1)
          have HB9 : Hid (Below w6.heap.size w6 w9) := Lib.hid ((alloc_below HB6.out).trans hb9)
          have HOWN : Hid (w9.ownsRow w6.heap.size 26 2 v' (nb + 1 + 1) (rowP ((a, b) :: (lm ++ [(x0, x1)])))) := Lib.hid (by rw [show (a, b) :: (lm ++ [(x0, x1)]) = ((a, b) :: lm) ++ [(x0, x1)] from rfl, rowP_append]; exact hown9)
          clear hb9 hown9 hgrow HOW HB6 c_a_0 c_a_1 c_z_0 c_z_1 hcx hcx'
          go_wp2
          go_roundw
          case rel => exact ⟨k + 1, nb + 1, lm ++ [(x0, x1)], by omega, by omega, by go_num, Lib.hid (by rw [List.length_append, HN.out]; rfl), HMS, HOWN, HB9.out⟩
          case measure => simp [intOf]; omega
        · rw [if_neg (fun h => g2 h.2), List.append_nil] at HMS
          go_wp2_with fail
          have g_c_a_0 := fun dd os => cell_regrown c_a_0 dd os
          have g_c_a_1 := fun dd os => cell_regrown c_a_1 dd os
          have g_c_z_0 := fun dd os => cell_regrown c_z_0 dd os
          have g_c_z_1 := fun dd os => cell_regrown c_z_1 dd os
          have g_hcx := fun dd os => cell_regrown hcx dd os
          have g_hcx' := fun dd os => cell_regrown hcx' dd os
          have q0 : Hid (∀ dd os, Calls Try.prog 46 #[rt x0 x1, rt a b] (Go.Sort.grow (redrawn wr dd) os) fun e w'' => e = .returned (.int .i64 m1) ∧ ∃ p : Regrown, w'' = Go.Sort.grow (redrawn wr p.d) p.os) := Lib.hid (fun dd os => Calls.regrown_of (refCompareI HIT.out ⟨HIA.out.1, HIA.out.2.1⟩ HM2.out (Go.Sort.grow (redrawn wr dd) os)))
          have q1 : Hid (∀ dd os, Calls Try.prog 46 #[rt x0 x1, rt y0 y1] (Go.Sort.grow (redrawn wr dd) os) fun e w'' => e = .returned (.int .i64 m2) ∧ ∃ p : Regrown, w'' = Go.Sort.grow (redrawn wr p.d) p.os) := Lib.hid (fun dd os => Calls.regrown_of (refCompareI HIT.out HYI.out HM3.out (Go.Sort.grow (redrawn wr dd) os)))
          refine wp_region_quiet_below (by kernel_rfl) (by kernel_rfl) ?_
          repeat (go_big_quiet_step (first | (go_at_call 46; with_reducible exact q0.out _ _) | (go_at_call 46; with_reducible exact q1.out _ _)))
          refine wpQuiet_nil ?_
          intro _ hw'
          obtain ⟨⟨dq, osq⟩, hw''⟩ := hw'
          subst hw''
          replace c_a_0 := g_c_a_0 dq osq
          clear g_c_a_0
          replace c_a_1 := g_c_a_1 dq osq
          clear g_c_a_1
          replace c_z_0 := g_c_z_0 dq osq
          clear g_c_z_0
          replace c_z_1 := g_c_z_1 dq osq
          clear g_c_z_1
          replace hcx := g_hcx dq osq
          clear g_hcx
          replace hcx' := g_hcx' dq osq
          clear g_hcx'
          clear q0 q1
          have hb_wq := below_regrown wr dq osq
          generalize Go.Sort.grow (redrawn wr dq) osq = wq at *
          have hb6 : Below w6.heap.size w6 wq := hB.trans (hb_wq.mono hB.size)
          replace HOW := Lib.hid (own_later HOW.out hb_wq)
          clear c_a_0 c_a_1 c_z_0 c_z_1 hcx hcx'
          go_wp2
          go_roundw
          case rel => exact ⟨k + 1, nb, lm, by omega, by omega, by go_num, HN, HMS, HOW, hb6⟩
          case measure => simp [intOf]; omega
      · rw [if_neg (fun h => g1 h.1), List.append_nil] at HMS
        have g1' : decide (0 < m1) = false := decide_eq_false g1
        go_wp2_with fail
        have g_c_a_0 := fun dd os => cell_regrown c_a_0 dd os
        have g_c_a_1 := fun dd os => cell_regrown c_a_1 dd os
        have g_c_z_0 := fun dd os => cell_regrown c_z_0 dd os
        have g_c_z_1 := fun dd os => cell_regrown c_z_1 dd os
        have g_hcx := fun dd os => cell_regrown hcx dd os
        have g_hcx' := fun dd os => cell_regrown hcx' dd os
        have q0 : Hid (∀ dd os, Calls Try.prog 46 #[rt x0 x1, rt a b] (Go.Sort.grow (redrawn wr dd) os) fun e w'' => e = .returned (.int .i64 m1) ∧ ∃ p : Regrown, w'' = Go.Sort.grow (redrawn wr p.d) p.os) := Lib.hid (fun dd os => Calls.regrown_of (refCompareI HIT.out ⟨HIA.out.1, HIA.out.2.1⟩ HM2.out (Go.Sort.grow (redrawn wr dd) os)))
        refine wp_region_quiet_below (by kernel_rfl) (by kernel_rfl) ?_
        repeat (go_big_quiet_step (first | (go_at_call 46; with_reducible exact q0.out _ _)))
        refine wpQuiet_nil ?_
        intro _ hw'
        obtain ⟨⟨dq, osq⟩, hw''⟩ := hw'
        subst hw''
        replace c_a_0 := g_c_a_0 dq osq
        clear g_c_a_0
        replace c_a_1 := g_c_a_1 dq osq
        clear g_c_a_1
        replace c_z_0 := g_c_z_0 dq osq
        clear g_c_z_0
        replace c_z_1 := g_c_z_1 dq osq
        clear g_c_z_1
        replace hcx := g_hcx dq osq
        clear g_hcx
        replace hcx' := g_hcx' dq osq
        clear g_hcx'
        clear q0
        have hb_wq := below_regrown wr dq osq
        generalize Go.Sort.grow (redrawn wr dq) osq = wq at *
        have hb6 : Below w6.heap.size w6 wq := hB.trans (hb_wq.mono hB.size)
        replace HOW := Lib.hid (own_later HOW.out hb_wq)
        clear c_a_0 c_a_1 c_z_0 c_z_1 hcx hcx'
        go_wp2
        go_roundw
        case rel => exact ⟨k + 1, nb, lm, by omega, by omega, by go_num, HN, HMS, HOW, hb6⟩
        case measure => simp [intOf]; omega
    · obtain rfl : k = L.length := by omega
      rw [List.take_length] at HM1
      have HPE : Hid ((a, b) :: (lm ++ [(y0, y1)]) = PL) := Lib.hid (by rw [← HM1.out]; exact HPL.out)
      have HNP : Hid (nb + 1 + 1 = PL.length) := Lib.hid (by rw [← HPE.out, ← HN.out]; simp)
      have z_z := World.block_lt_of_cell? _ _ c_z_0
      go_wp2_with (first
        | (at_builtin; refine wpList_append_own _ rfl _ _ 33 rfl w6.heap.size 26 i0 (.agg #[.int .i64 0, .int .i64 0]) 2 16 Try.underlying33 hi hz0 hz1 hz2 rfl (by decide) _ _ _ rfl (HOW.out.alloc _) ⟨wr.heap.size, 0, none⟩ 1 1 [.int .i64 y0, .int .i64 y1] rfl rfl (cells2_new _ _ _ _ (by simp)) (one_cell2 _ _) (by unfold maxLen; omega) (by omega) (by simp; omega) ?_)
        | fail)
      intro v' w9 hown9 hgrow _
      have hb9 : Below w6.heap.size (wr.alloc (.cells #[.int .i64 y0, .int .i64 y1] 26)) w9 := (Below.refl _ _).grown hgrow (by simp; omega) (fun k hk => (HOW.out.lt k hk).1)
      have HB9 : Hid (Below w.heap.size w w9) := Lib.hid (below_two hB6 ((alloc_below hB).trans hb9))
      have hP9 : Prs w9 v' PL := prs_of (base := w6.heap.size) (e := 26) (by omega) (by
        rw [← HNP.out, ← HPE.out, show (a, b) :: (lm ++ [(y0, y1)]) = ((a, b) :: lm) ++ [(y0, y1)] from rfl, rowP_append]; exact hown9)
      clear hb9 hown9 hgrow HOW hB c_a_0 c_a_1 c_z_0 c_z_1 HC hB6
      obtain ⟨p5, cap5, rfl, hl5, hc5⟩ := hP9
      have HC5 := Lib.hid hc5
      clear hc5 hl5
      have hown0 := World.ownsRow_nil w9 w9.heap.size 26 2
      go_wp2_with fail
      go_loopw [18, 19] (fun l i wr => PcRel PL w9 l i wr) (fun _ i _ => PL.length - (intOf i).toNat)
      case atStart => exact ⟨0, [], by omega, rfl, Lib.hid rfl, Lib.hid HP0.out.symm, Lib.hid hown0, Below.refl _ _⟩
      case round =>
        obtain ⟨k, o, hk2, rfl, HO, HPK, HOW, hB⟩ := hrel
        have hsz := hB.size
        by_cases hlt : k + 1 < PL.length
        · obtain ⟨⟨f0, f1⟩, hf⟩ : ∃ f, PL[k]? = some f := ⟨_, List.getElem?_eq_getElem (by omega)⟩
          obtain ⟨⟨t0, t1⟩, ht⟩ : ∃ t, PL[k + 1]? = some t := ⟨_, List.getElem?_eq_getElem (by omega)⟩
          obtain ⟨b5, o5, e5, r0, r1⟩ := HC5.out k _ hf
          obtain ⟨b6, o6, e6, s0, s1⟩ := HC5.out (k + 1) _ ht
          subst e5
          obtain ⟨rfl, rfl⟩ : b5 = b6 ∧ o5 = o6 := by cases e6; exact ⟨rfl, rfl⟩
          clear e6
          dsimp only at r0 r1 s0 s1
          replace r0 := cell_later hB r0
          replace r1 := cell_later hB r1
          replace s0 := cell_later hB s0
          replace s1 := cell_later hB s1
          have HIF := Lib.hid (HRP.out _ (List.mem_of_getElem? hf))
          have HIT := Lib.hid (HRP.out _ (List.mem_of_getElem? ht))
          dsimp only at HIF HIT
          obtain ⟨⟨x0, x1⟩, HS⟩ : ∃ x, Hid (Met.sb (t0, t1) (f0, f1) = x) := ⟨_, Lib.hid rfl⟩
          obtain ⟨G, HG⟩ : ∃ G, Hid (Met.sbE (t0, t1) (f0, f1) = G) := ⟨_, Lib.hid rfl⟩
          have HD := Lib.hid (drop_two hf ht)
          have HPC := Lib.hid (Met.pcR_cons (f0, f1) (t0, t1) (PL.drop (k + 2)))
          rw [HS.out, HG.out] at HPC
          have hlt' : (k : Int) + 1 < (PL.length : Int) := by omega
          have hx1 : (0 : Int) ≤ (k : Int) + 1 := by omega
          have hx2 : ((k : Int) + 1).toNat = k + 1 := by omega
          have hx3 : IntKind.i64.wrap ((k : Int) + 1 - 1) = (k : Int) := by rw [IntWalk.i64_in _ (by omega)]; omega
          have hx6 : IntKind.i64.wrap (k : Int) = (k : Int) := IntWalk.i64_in _ (by omega)
          have hx4 : (0 : Int) ≤ (k : Int) := by omega
          have hx5 : (k : Int) < (PL.length : Int) := by omega
          have zr := World.block_lt_of_cell? _ _ r0
          clear hf ht
          go_wp2_with fail
          have hBr0 : Below wr.heap.size wr wr := Below.refl _ _
          go_cut [20, 21] (fun p e wx => AtR x0 x1 wr p wx ∧ e = .int .i64 G)
          case first =>
            have RA : Hid (∀ u, Below (wr.alloc (.cells #[.int .i64 0, .int .i64 0] 26)).drew.heap.size (wr.alloc (.cells #[.int .i64 0, .int .i64 0] 26)).drew u → u.cell? ⟨wr.heap.size, 0, none⟩ = some (.int .i64 0) ∧ u.cell? ⟨wr.heap.size, 1, none⟩ = some (.int .i64 0) ∧ u.frozen? ⟨wr.heap.size, 0, none⟩ = false ∧ u.frozen? ⟨wr.heap.size, 1, none⟩ = false ∧ Below wr.heap.size wr u) := Lib.hid (fun u hq => by
              have e0 : (wr.alloc (.cells #[.int .i64 0, .int .i64 0] 26)).drew.cell? ⟨wr.heap.size, 0, none⟩ = some (.int .i64 0) := cell_drew (by go_simp)
              have e1 : (wr.alloc (.cells #[.int .i64 0, .int .i64 0] 26)).drew.cell? ⟨wr.heap.size, 1, none⟩ = some (.int .i64 0) := cell_drew (by go_simp)
              exact ⟨cell_later hq e0, cell_later hq e1, frozen_later hq e0 (frozen_drew (by go_simp)), frozen_later hq e1 (frozen_drew (by go_simp)), below_two (alloc_below hBr0).drew hq⟩)
            have RB : Hid (∀ u, Below wr.drew.heap.size wr.drew u → u.cell? ⟨b5, o5 + (k + 1) * 2, none⟩ = some (.int .i64 t0) ∧ u.cell? ⟨b5, o5 + (k + 1) * 2 + 1, none⟩ = some (.int .i64 t1) ∧ u.cell? ⟨b5, o5 + k * 2, none⟩ = some (.int .i64 f0) ∧ u.cell? ⟨b5, o5 + k * 2 + 1, none⟩ = some (.int .i64 f1) ∧ Below wr.heap.size wr u) := Lib.hid (fun u hq => ⟨cell_later hq (cell_drew s0), cell_later hq (cell_drew s1), cell_later hq (cell_drew r0), cell_later hq (cell_drew r1), below_two hBr0.drew hq⟩)
            go_region_held3 (fun w' => w'.cell? ⟨b5, o5 + (k + 1) * 2, none⟩ = some (.int .i64 t0) ∧ w'.cell? ⟨b5, o5 + (k + 1) * 2 + 1, none⟩ = some (.int .i64 t1) ∧ w'.cell? ⟨b5, o5 + k * 2, none⟩ = some (.int .i64 f0) ∧ w'.cell? ⟨b5, o5 + k * 2 + 1, none⟩ = some (.int .i64 f1) ∧ Below wr.heap.size wr w')
              (((try go_split_ands); refine ⟨?_, ?_, ?_, ?_, ?_⟩ <;> first | with_reducible assumption | (with_reducible refine cell_later hq ?_; with_reducible assumption) | (with_reducible refine below_two ?_ hq; with_reducible assumption) | (with_reducible refine alloc_cell ?_; with_reducible assumption) | (with_reducible refine alloc_below ?_; with_reducible assumption) | (with_reducible refine set_far ?_ (set_far ?_ ?_); omega; omega; with_reducible assumption) | (with_reducible refine put2_below ?_ ?_; with_reducible assumption; omega) | with_reducible exact cell_drew s0 | with_reducible exact cell_drew s1 | with_reducible exact cell_drew r0 | with_reducible exact cell_drew r1 | with_reducible exact hBr0.drew | with_reducible exact cell_drew (alloc_cell s0) | with_reducible exact cell_drew (alloc_cell s1) | with_reducible exact cell_drew (alloc_cell r0) | with_reducible exact cell_drew (alloc_cell r1) | with_reducible exact (alloc_below hBr0).drew))
              (first
                | (go_at_call 47; first
                    | (with_reducible refine (refSubI HIT.out HIF.out HS.out HG.out wr.drew).mono ?_; rintro ed u5 ⟨rfl, hq⟩; obtain ⟨n_s0, n_s1, n_r0, n_r1, hb5⟩ := RB.out _ hq)
                    | (with_reducible refine (refSubI HIT.out HIF.out HS.out HG.out (wr.alloc (.cells #[.int .i64 0, .int .i64 0] 26)).drew).mono ?_; rintro ed u5 ⟨rfl, hq⟩; obtain ⟨r_0, r_1, f_0, f_1, hb5⟩ := RA.out _ hq)))
            all_goals (first
              | (go_wp2_with fail; go_meet; case rel => exact ⟨⟨_, rfl, (put2_of r_0 r_1).1, (put2_of r_0 r_1).2, put2_below hb5 (by omega)⟩, rfl⟩)
              | (go_wp2_with fail; go_meet; case rel => exact ⟨⟨_, rfl, by go_simp, by go_simp, alloc_below hb5⟩, rfl⟩))
          case rest =>
            obtain ⟨⟨A1, rfl, xc0, xc1, hBx⟩, rfl⟩ := hcut
            have hBw : Below w9.heap.size w9 wc := hB.trans (hBx.mono hB.size)
            replace HOW := Lib.hid (own_later HOW.out hBx)
            have hszw := hBw.size
            have HBW := Lib.hid hBw
            have zA := World.block_lt_of_cell? _ _ xc0
            clear r0 r1 s0 s1 hB hBx hBw hx2 hx3 hx6
            by_cases hG : G = 0
            · subst hG
              rw [if_neg (by simp)] at HPC
              go_wp2_with (first
                | (at_builtin; refine wpList_append_own _ rfl _ _ 33 rfl w9.heap.size 26 i0 (.agg #[.int .i64 0, .int .i64 0]) 2 16 Try.underlying33 hi hz0 hz1 hz2 rfl (by decide) _ _ _ rfl (HOW.out.alloc _) ⟨wc.heap.size, 0, none⟩ 1 1 [.int .i64 x0, .int .i64 x1] rfl rfl (cells2_new _ _ _ _ (by simp)) (one_cell2 _ _) (by unfold maxLen; omega) (by omega) (by simp; omega) ?_)
                | fail)
              intro v' w8 hown8 hgrow _
              have hb8 : Below w9.heap.size (wc.alloc (.cells #[.int .i64 x0, .int .i64 x1] 26)) w8 := (Below.refl _ _).grown hgrow (by simp; omega) (fun k hk => (HOW.out.lt k hk).1)
              have HB8 : Hid (Below w9.heap.size w9 w8) := Lib.hid ((alloc_below HBW.out).trans hb8)
              have HOWN : Hid (w8.ownsRow w9.heap.size 26 2 v' (k + 1) (rowP (o ++ [(x0, x1)]))) := Lib.hid (by rw [rowP_append]; exact hown8)
              clear hb8 hown8 hgrow HOW HBW xc0 xc1 zA zr
              go_wp2
              go_roundw
              case rel => exact ⟨k + 1, o ++ [(x0, x1)], by omega, by go_num, Lib.hid (by rw [List.length_append, HO.out]; rfl), Lib.hid (by rw [HPK.out, HD.out.1, HPC.out, Met.comb_comb, HD.out.2]), HOWN, HB8.out⟩
              case measure => simp [intOf]; omega
            · have hG1 : (G == 0) = false := beq_eq_false_iff_ne.2 hG
              have hG2 : (G != 0) = true := by simp [hG]
              have HR : Hid (E = G ∧ LO = []) := Lib.hid (by
                have h := HPK.out
                rw [HPP.out, HD.out.1, HPC.out, if_pos hG] at h
                unfold Met.comb at h
                rw [if_pos hG] at h
                exact ⟨congrArg Prod.fst h, congrArg Prod.snd h⟩)
              obtain ⟨rfl, rfl⟩ := HR.out
              go_wp2
              go_ret2
              exact ⟨⟨_, rfl, Prs.none _⟩, below_two HB9.out HBW.out⟩
        · have hk3 : ¬ (k : Int) + 1 < (PL.length : Int) := by omega
          obtain ⟨f, hf⟩ : ∃ f, PL.drop k = [f] := by
            have hk' : k < PL.length := by omega
            exact ⟨PL[k], by rw [List.drop_eq_getElem_cons hk', List.drop_eq_nil_of_le (by omega)]⟩
          have HR : Hid (E = 0 ∧ LO = o) := Lib.hid (by
            have h := HPK.out
            rw [HPP.out, hf] at h
            simp [Met.comb, Met.pcR] at h
            exact h)
          obtain ⟨rfl, rfl⟩ := HR.out
          go_wp2
          go_ret2
          exact ⟨⟨_, rfl, prs_of (base := w9.heap.size) (e := 26) (by have := HO.out; omega) (by rw [HO.out]; exact HOW.out)⟩, below_two HB9.out hB⟩

theorem refCut_any (q d : Int) (v : Value) (gs : List Int) (a b c e : Int) (w : World) (hI : Ints w v gs) (ia : Rat.I64 a) (ib : Rat.I64 b) (ic : Rat.I64 c) (ie : Rat.I64 e) :
    Calls Try.prog 25 #[mt q d v, rt a b, rt c e] w fun ed w' => (∃ u, ed = .returned (.tuple #[u, .int .i64 (Met.ct q d gs (a, b) (c, e)).1]) ∧ Prs w' u (Met.ct q d gs (a, b) (c, e)).2) ∧ Below w.heap.size w w' := by
  have nil : ∀ (E : Int), Met.ct q d gs (a, b) (c, e) = (E, []) → (Calls Try.prog 25 #[mt q d v, rt a b, rt c e] w fun ed w' => ed = .returned (.tuple #[.slice none 0 0, .int .i64 E]) ∧ Below w.heap.size w w') → Calls Try.prog 25 #[mt q d v, rt a b, rt c e] w fun ed w' => (∃ u, ed = .returned (.tuple #[u, .int .i64 (Met.ct q d gs (a, b) (c, e)).1]) ∧ Prs w' u (Met.ct q d gs (a, b) (c, e)).2) ∧ Below w.heap.size w w' := fun E h hc => by
    rw [h]
    exact hc.mono fun _ _ ⟨he, hb⟩ => ⟨⟨_, he, Prs.none _⟩, hb⟩
  cases hr : Met.right q d gs
  · exact nil _ (by unfold Met.ct; rw [hr]; rfl) (refCut_no q d v gs a b c e w hI ia ib ic ie hr)
  cases h1 : Met.inB q d (a, b)
  · exact nil _ (by unfold Met.ct; rw [hr, h1]; rfl) (refCut_out1 q d v gs a b c e w hI ia ib ic ie hr h1 _ rfl)
  cases h2 : Met.ok (c, e)
  · exact nil _ (by unfold Met.ct; rw [hr, h1, h2]; rfl) (refCut_out2 q d v gs a b c e w hI ia ib ic ie hr h1 h2)
  by_cases h3 : ¬ 0 < c
  · exact nil _ (by unfold Met.ct; rw [hr, h1, h2, if_pos rfl, if_neg (by simp; omega)]) (refCut_out3 q d v gs a b c e w hI ia ib ic ie hr h1 h2 (by omega))
  replace h3 : 0 < c := by omega
  have e1 : Met.ct q d gs (a, b) (c, e) = if Met.adE (a, b) (c, e) = 0 then (if 0 < Met.cm (Met.ad (a, b) (c, e)) (Met.of q d) then (2, []) else Met.pcs q d gs (a, b) (Met.ad (a, b) (c, e))) else (Met.adE (a, b) (c, e), []) := by
    unfold Met.ct; rw [hr, h1, h2, if_pos rfl, if_pos (by simpa using h3)]
  by_cases h4 : ¬ Met.adE (a, b) (c, e) = 0
  · exact nil _ (by rw [e1, if_neg h4]) (refCut_add q d v gs a b c e w hI ia ib ic ie hr h1 h2 h3 _ (Lib.hid rfl) (by simp [h4]))
  replace h4 : Met.adE (a, b) (c, e) = 0 := Decidable.not_not.1 h4
  by_cases h5 : 0 < Met.cm (Met.ad (a, b) (c, e)) (Met.of q d)
  · exact nil _ (by rw [e1, if_pos h4, if_pos h5]) (refCut_big q d v gs a b c e w hI ia ib ic ie hr h1 h2 h3 (Lib.hid h4) _ (Lib.hid rfl) h5)
  · rw [e1, if_pos h4, if_neg h5]
    exact refCut_yes q d v gs a b c e w hI ia ib ic ie hr h1 h2 h3 (Lib.hid h4) _ (Lib.hid rfl) (by omega)
theorem refCut_is {q d : Int} {v : Value} {gs : List Int} {w : World} (hI : Ints w v gs) {a b c e E : Int} {L : List Met.Pr} (ia : Rat.I64 a) (ib : Rat.I64 b) (ic : Rat.I64 c) (ie : Rat.I64 e) (h : Met.ct q d gs (a, b) (c, e) = (E, L)) :
    Calls Try.prog 25 #[mt q d v, rt a b, rt c e] w fun ed w' => (∃ u, ed = .returned (.tuple #[u, .int .i64 E]) ∧ Prs w' u L) ∧ Below w.heap.size w w' := by have := refCut_any q d v gs a b c e w hI ia ib ic ie; rw [h] at this; exact this
end Go.Proofs.Ytlodhfdikglgoaa
