/-
  The contract of the statements' own Meter.
-/
import Derived.Test.YtlodhfdikglgoaaMetH
import Derived.Deep.RegionHeld3
import Derived.LoopN
import Derived.Deep.AppendLies
namespace Go.Proofs.Ytlodhfdikglgoaa
open Go.RowKit

/-- What lies in memory between two rounds of Meter's loop. -/
structure MkI (N D : Int) (gs l : List Int) (w : World) (Bm : Nat) (v u : Value) (wr : World) : Prop where
  m0 : wr.cell? ⟨Bm, 0, none⟩ = some (.int .i64 N)
  m1 : wr.cell? ⟨Bm, 1, none⟩ = some (.int .i64 D)
  m2 : wr.cell? ⟨Bm, 2, none⟩ = some u
  f2 : wr.frozen? ⟨Bm, 2, none⟩ = false
  x2 : wr.cell? ⟨w.heap.size, 2, none⟩ = some v
  r0 : wr.cell? ⟨w.heap.size + 1, 0, none⟩ = some (.int .i64 0)
  r1 : wr.cell? ⟨w.heap.size + 1, 1, none⟩ = some (.int .i64 0)
  r2 : wr.cell? ⟨w.heap.size + 1, 2, none⟩ = some (.slice none 0 0)
  g0 : wr.frozen? ⟨w.heap.size + 1, 0, none⟩ = false
  g1 : wr.frozen? ⟨w.heap.size + 1, 1, none⟩ = false
  g2 : wr.frozen? ⟨w.heap.size + 1, 2, none⟩ = false
  own : wr.ownsRow (Bm + 1) 3 1 u l.length (l.map (fun x => Value.int .i64 x))
  ints : Ints w v gs
  below : Below w.heap.size w wr
  hs : Bm < wr.heap.size
  hx : w.heap.size + 1 < Bm
def MkRel (N D : Int) (gs : List Int) (w : World) (Bm : Nat) (v : Value) (a i : Value) (wr : World) : Prop :=
  ∃ (l : List Int) (u : Value) (L : Int), Hid (N - Met.tot l = L) ∧ a = .int .i64 L ∧ i = .int .i64 (l.length : Int) ∧ Hid (∀ g ∈ l, 1 ≤ g) ∧ 0 ≤ L ∧ L ≤ 32 ∧ l.length ≤ 32 ∧ Hid (MkI N D gs l w Bm v u wr)
theorem MkI.app {N D n : Int} {gs l : List Int} {w wr w5 : World} {Bm g' cap' : Nat} {v u : Value} {o : Obj} (h : MkI N D gs l w Bm v u wr) (hown : w5.ownsRow (Bm + 1) 3 1 (.slice (some ⟨g', 0, none⟩) (l.length + 1) cap') (l.length + 1) (l.map (fun x => Value.int .i64 x) ++ [.int .i64 n])) (hg : (wr.alloc o).grownBy w5 u.ownBlock) :
    (w5.cell? ⟨Bm, 2, none⟩ = some u ∧ w5.frozen? ⟨Bm, 2, none⟩ = false) ∧ MkI N D gs (l ++ [n]) w Bm v (.slice (some ⟨g', 0, none⟩) (l.length + 1) cap') (w5.setCell ⟨Bm, 2, none⟩ (.slice (some ⟨g', 0, none⟩) (l.length + 1) cap')) := by
  have hlt := h.own.lt
  have key : ∀ B, B ≤ Bm → w5.heap[B]? = wr.heap[B]? := fun B hB => (hg.block B (by have := h.hs; simp; omega) (fun e => by have := (hlt B e.symm).1; omega)).trans (Below.heap_alloc _ _ _ (by have := h.hs; omega))
  have hs5 : wr.heap.size ≤ w5.heap.size := by have := hg.size; simp at this; omega
  have hx := h.hx
  have c : ∀ B o, B ≤ Bm → w5.cell? ⟨B, o, none⟩ = wr.cell? ⟨B, o, none⟩ := fun B o hB => World.cell?_of_block (a := ⟨B, o, none⟩) (key B hB)
  have f : ∀ B o, B ≤ Bm → w5.frozen? ⟨B, o, none⟩ = wr.frozen? ⟨B, o, none⟩ := fun B o hB => World.frozen?_of_block (a := ⟨B, o, none⟩) (key B hB)
  refine ⟨⟨(c _ _ (Nat.le_refl _)).trans h.m2, (f _ _ (Nat.le_refl _)).trans h.f2⟩, ?_⟩
  refine ⟨set_beside (by decide) ((c _ _ (Nat.le_refl _)).trans h.m0), set_beside (by decide) ((c _ _ (Nat.le_refl _)).trans h.m1), set_same (held_of ((c _ _ (Nat.le_refl _)).trans h.m2)), set_frozen ((f _ _ (Nat.le_refl _)).trans h.f2), set_far (by omega) ((c _ _ (by omega)).trans h.x2),
    set_far (by omega) ((c _ _ (by omega)).trans h.r0), set_far (by omega) ((c _ _ (by omega)).trans h.r1), set_far (by omega) ((c _ _ (by omega)).trans h.r2), set_frozen ((f _ _ (by omega)).trans h.g0), set_frozen ((f _ _ (by omega)).trans h.g1), set_frozen ((f _ _ (by omega)).trans h.g2), ?_, h.ints, ?_, ?_, hx⟩
  · rw [List.length_append, List.map_append]; exact own_set hown (by omega)
  · refine set1_below (h.below.trans ?_) (by omega)
    refine ((Below.refl _ wr).alloc (by have := h.hs; omega) o).grown hg (by have := h.hs; simp; omega) (fun k e => by have := (hlt k e).1; omega)
  · have := h.hs; simp; omega

set_option maxRecDepth 100000 in
set_option maxHeartbeats 4000000 in
theorem meter_no (a b : Int) (v : Value) (gs : List Int) (w : World) (hI : Ints w v gs) (ia : Rat.I64 a) (ib : Rat.I64 b) (x y N D : Int) (HX : Hid (pickS a 32 = x)) (HY : Hid (pickS b 7 = y)) (y0 : 0 ≤ y) (y1 : y < 7) (hN : IntKind.i64.wrap (1 + x) = N) (hD : IntKind.i64.wrap (2 ^ y.toNat) = D) (n1 : 1 ≤ N) :
    Calls Try.prog 11 #[mt a b v, .bool false] w fun ed w' => ed = .returned (mt N D (.slice none 0 0)) ∧ Below w.heap.size w w' := by
  obtain ⟨p, cap, rfl, hl, hc⟩ := hI
  have HI : Hid (Ints w (.slice p gs.length cap) gs) := Lib.hid ⟨p, cap, rfl, hl, hc⟩
  clear hc
  have hB0 : Below w.heap.size w w := Below.refl _ _
  go_enter Try.func11, Try.ntmps11
  go_wp2_with fail
  have hs1 : Below w.heap.size w ((w.alloc (.cells #[.int .i64 a, .int .i64 b, .slice p gs.length cap] 24)).alloc (.cells #[.int .i64 0, .int .i64 0, .slice none 0 0] 24)) := by repeat (first | exact Below.refl _ _ | refine Below.alloc ?_ (by simp <;> omega) _)
  have c_x_0 : ((w.alloc (.cells #[.int .i64 a, .int .i64 b, .slice p gs.length cap] 24)).alloc (.cells #[.int .i64 0, .int .i64 0, .slice none 0 0] 24)).cell? ⟨w.heap.size, 0, none⟩ = some (.int .i64 a) := by go_simp
  have c_x_1 : ((w.alloc (.cells #[.int .i64 a, .int .i64 b, .slice p gs.length cap] 24)).alloc (.cells #[.int .i64 0, .int .i64 0, .slice none 0 0] 24)).cell? ⟨w.heap.size, 1, none⟩ = some (.int .i64 b) := by go_simp
  have c_x_2 : ((w.alloc (.cells #[.int .i64 a, .int .i64 b, .slice p gs.length cap] 24)).alloc (.cells #[.int .i64 0, .int .i64 0, .slice none 0 0] 24)).cell? ⟨w.heap.size, 2, none⟩ = some (.slice p gs.length cap) := by go_simp
  have c_r_0 : ((w.alloc (.cells #[.int .i64 a, .int .i64 b, .slice p gs.length cap] 24)).alloc (.cells #[.int .i64 0, .int .i64 0, .slice none 0 0] 24)).cell? ⟨w.heap.size + 1, 0, none⟩ = some (.int .i64 0) := by go_simp
  have f_r_0 : ((w.alloc (.cells #[.int .i64 a, .int .i64 b, .slice p gs.length cap] 24)).alloc (.cells #[.int .i64 0, .int .i64 0, .slice none 0 0] 24)).frozen? ⟨w.heap.size + 1, 0, none⟩ = false := by go_simp
  have c_r_1 : ((w.alloc (.cells #[.int .i64 a, .int .i64 b, .slice p gs.length cap] 24)).alloc (.cells #[.int .i64 0, .int .i64 0, .slice none 0 0] 24)).cell? ⟨w.heap.size + 1, 1, none⟩ = some (.int .i64 0) := by go_simp
  have f_r_1 : ((w.alloc (.cells #[.int .i64 a, .int .i64 b, .slice p gs.length cap] 24)).alloc (.cells #[.int .i64 0, .int .i64 0, .slice none 0 0] 24)).frozen? ⟨w.heap.size + 1, 1, none⟩ = false := by go_simp
  have c_r_2 : ((w.alloc (.cells #[.int .i64 a, .int .i64 b, .slice p gs.length cap] 24)).alloc (.cells #[.int .i64 0, .int .i64 0, .slice none 0 0] 24)).cell? ⟨w.heap.size + 1, 2, none⟩ = some (.slice none 0 0) := by go_simp
  have f_r_2 : ((w.alloc (.cells #[.int .i64 a, .int .i64 b, .slice p gs.length cap] 24)).alloc (.cells #[.int .i64 0, .int .i64 0, .slice none 0 0] 24)).frozen? ⟨w.heap.size + 1, 2, none⟩ = false := by go_simp
  have hB1 := below_two hB0 hs1
  clear hB0 hs1
  generalize ((w.alloc (.cells #[.int .i64 a, .int .i64 b, .slice p gs.length cap] 24)).alloc (.cells #[.int .i64 0, .int .i64 0, .slice none 0 0] 24)) = w1 at *
  have z_r := World.block_lt_of_cell? _ _ c_r_0
  have z_x := World.block_lt_of_cell? _ _ c_x_0
  go_region_held3 (fun w' => w'.cell? ⟨w.heap.size, 0, none⟩ = some (.int .i64 a) ∧ w'.cell? ⟨w.heap.size, 1, none⟩ = some (.int .i64 b) ∧ w'.cell? ⟨w.heap.size, 2, none⟩ = some (.slice p gs.length cap) ∧ w'.cell? ⟨w.heap.size + 1, 0, none⟩ = some (.int .i64 0) ∧ w'.frozen? ⟨w.heap.size + 1, 0, none⟩ = false ∧ w'.cell? ⟨w.heap.size + 1, 1, none⟩ = some (.int .i64 0) ∧ w'.frozen? ⟨w.heap.size + 1, 1, none⟩ = false ∧ w'.cell? ⟨w.heap.size + 1, 2, none⟩ = some (.slice none 0 0) ∧ w'.frozen? ⟨w.heap.size + 1, 2, none⟩ = false ∧ Below w.heap.size w w')
    (((try go_split_ands); refine ⟨?_, ?_, ?_, ?_, ?_, ?_, ?_, ?_, ?_, ?_⟩ <;> first | with_reducible assumption | (with_reducible refine cell_later hq ?_; with_reducible assumption) | (with_reducible refine below_two ?_ hq; with_reducible assumption) | (with_reducible refine frozen_later (v := ?_) hq ?_ ?_; rotate_left; with_reducible assumption; with_reducible assumption) | (with_reducible refine cell_drew (alloc_cell ?_); with_reducible assumption) | (with_reducible refine frozen_drew (alloc_frozen (v := ?_) ?_ ?_); rotate_left; with_reducible assumption; with_reducible assumption) | (with_reducible refine Below.drew (alloc_below ?_); with_reducible assumption) | with_reducible exact cell_drew c_x_0 | with_reducible exact cell_drew c_x_1 | with_reducible exact cell_drew c_x_2 | with_reducible exact cell_drew c_r_0 | with_reducible exact frozen_drew f_r_0 | with_reducible exact cell_drew c_r_1 | with_reducible exact frozen_drew f_r_1 | with_reducible exact cell_drew c_r_2 | with_reducible exact frozen_drew f_r_2 | with_reducible exact hB1.drew))
    (first
      | (go_at_call 30; refine (pick_any _ _ _ ?_ ?_ ?_).mono ?_; (first | exact ia | exact ib); decide; decide; rintro e w2 ⟨rfl, rfl⟩; (first | rw [HX.out] | rw [HY.out])))
  all_goals
    have hs2 : Below w1.heap.size w1 (w1.alloc (.cells #[.int .i64 N, .int .i64 D, .slice none 0 0] 24)).drew := ((Below.refl _ _).alloc (Nat.le_refl _) _).drew
    have n_r_0 := cell_later hs2 c_r_0
    have m_r_0 := frozen_later hs2 c_r_0 f_r_0
    have n_x_0 := cell_later hs2 c_x_0
    have n_r_1 := cell_later hs2 c_r_1
    have m_r_1 := frozen_later hs2 c_r_1 f_r_1
    have n_x_1 := cell_later hs2 c_x_1
    have n_r_2 := cell_later hs2 c_r_2
    have m_r_2 := frozen_later hs2 c_r_2 f_r_2
    have n_x_2 := cell_later hs2 c_x_2
    have n_q_0 : (w1.alloc (.cells #[.int .i64 N, .int .i64 D, .slice none 0 0] 24)).drew.cell? ⟨w1.heap.size, 0, none⟩ = some (.int .i64 N) := by go_simp
    have m_q_0 : (w1.alloc (.cells #[.int .i64 N, .int .i64 D, .slice none 0 0] 24)).drew.frozen? ⟨w1.heap.size, 0, none⟩ = false := by go_simp
    have n_q_1 : (w1.alloc (.cells #[.int .i64 N, .int .i64 D, .slice none 0 0] 24)).drew.cell? ⟨w1.heap.size, 1, none⟩ = some (.int .i64 D) := by go_simp
    have m_q_1 : (w1.alloc (.cells #[.int .i64 N, .int .i64 D, .slice none 0 0] 24)).drew.frozen? ⟨w1.heap.size, 1, none⟩ = false := by go_simp
    have n_q_2 : (w1.alloc (.cells #[.int .i64 N, .int .i64 D, .slice none 0 0] 24)).drew.cell? ⟨w1.heap.size, 2, none⟩ = some (.slice none 0 0) := by go_simp
    have m_q_2 : (w1.alloc (.cells #[.int .i64 N, .int .i64 D, .slice none 0 0] 24)).drew.frozen? ⟨w1.heap.size, 2, none⟩ = false := by go_simp
    have hB2 := below_two hB1 hs2
    have y_r := World.block_lt_of_cell? _ _ c_r_0
    have y_q := World.block_lt_of_cell? _ _ n_q_0
    clear c_x_0 c_x_1 c_x_2 c_r_0 c_r_1 c_r_2 f_r_0 f_r_1 f_r_2 z_x z_r hB1 hs2 hN hD HX HY ia ib y0 y1
    generalize (w1.alloc (.cells #[.int .i64 N, .int .i64 D, .slice none 0 0] 24)).drew = w2 at *
    simp only at y_r y_q
    obtain ⟨e0, e1, e2⟩ := put3_of (x := .int .i64 N) (y := .int .i64 D) (z := .slice none 0 0) n_r_0 n_r_1 n_r_2
    go_wp2
    refine wp_loop_rounds 1 ?_
    rw [rounds_succ]
    go_wp2
    exact bodyPost_ret (v := mt N D (.slice none 0 0)) (by simp [results, Try.results11, go_sem, e0, e1, e2]) rfl ⟨rfl, put3_below hB2 (by omega)⟩

set_option maxRecDepth 100000 in
set_option maxHeartbeats 4000000 in
theorem meter_yes (a b : Int) (v : Value) (gs : List Int) (w : World) (hI : Ints w v gs) (ia : Rat.I64 a) (ib : Rat.I64 b) (x y N D : Int) (HX : Hid (pickS a 32 = x)) (HY : Hid (pickS b 7 = y)) (y0 : 0 ≤ y) (y1 : y < 7) (hN : IntKind.i64.wrap (1 + x) = N) (hD : IntKind.i64.wrap (2 ^ y.toNat) = D) (n1 : 1 ≤ N) (n32 : N ≤ 32) (hgs : Hid (∀ z ∈ gs, Rat.I64 z)) :
    Calls Try.prog 11 #[mt a b v, .bool true] w fun ed w' => (∃ u, ed = .returned (mt N D u) ∧ ∃ l, Ints w' u l ∧ (∀ g ∈ l, 1 ≤ g) ∧ Met.tot l = N) ∧ Below w.heap.size w w' := by
  obtain ⟨p, cap, rfl, hl, hc⟩ := hI
  have HI : Hid (Ints w (.slice p gs.length cap) gs) := Lib.hid ⟨p, cap, rfl, hl, hc⟩
  clear hc
  obtain ⟨i0, hi0, hz0, hz1, hz2⟩ := info_parts infoI
  have hB0 : Below w.heap.size w w := Below.refl _ _
  go_enter Try.func11, Try.ntmps11
  go_wp2_with fail
  have hs1 : Below w.heap.size w ((w.alloc (.cells #[.int .i64 a, .int .i64 b, .slice p gs.length cap] 24)).alloc (.cells #[.int .i64 0, .int .i64 0, .slice none 0 0] 24)) := by repeat (first | exact Below.refl _ _ | refine Below.alloc ?_ (by simp <;> omega) _)
  have c_x_0 : ((w.alloc (.cells #[.int .i64 a, .int .i64 b, .slice p gs.length cap] 24)).alloc (.cells #[.int .i64 0, .int .i64 0, .slice none 0 0] 24)).cell? ⟨w.heap.size, 0, none⟩ = some (.int .i64 a) := by go_simp
  have c_x_1 : ((w.alloc (.cells #[.int .i64 a, .int .i64 b, .slice p gs.length cap] 24)).alloc (.cells #[.int .i64 0, .int .i64 0, .slice none 0 0] 24)).cell? ⟨w.heap.size, 1, none⟩ = some (.int .i64 b) := by go_simp
  have c_x_2 : ((w.alloc (.cells #[.int .i64 a, .int .i64 b, .slice p gs.length cap] 24)).alloc (.cells #[.int .i64 0, .int .i64 0, .slice none 0 0] 24)).cell? ⟨w.heap.size, 2, none⟩ = some (.slice p gs.length cap) := by go_simp
  have c_r_0 : ((w.alloc (.cells #[.int .i64 a, .int .i64 b, .slice p gs.length cap] 24)).alloc (.cells #[.int .i64 0, .int .i64 0, .slice none 0 0] 24)).cell? ⟨w.heap.size + 1, 0, none⟩ = some (.int .i64 0) := by go_simp
  have f_r_0 : ((w.alloc (.cells #[.int .i64 a, .int .i64 b, .slice p gs.length cap] 24)).alloc (.cells #[.int .i64 0, .int .i64 0, .slice none 0 0] 24)).frozen? ⟨w.heap.size + 1, 0, none⟩ = false := by go_simp
  have c_r_1 : ((w.alloc (.cells #[.int .i64 a, .int .i64 b, .slice p gs.length cap] 24)).alloc (.cells #[.int .i64 0, .int .i64 0, .slice none 0 0] 24)).cell? ⟨w.heap.size + 1, 1, none⟩ = some (.int .i64 0) := by go_simp
  have f_r_1 : ((w.alloc (.cells #[.int .i64 a, .int .i64 b, .slice p gs.length cap] 24)).alloc (.cells #[.int .i64 0, .int .i64 0, .slice none 0 0] 24)).frozen? ⟨w.heap.size + 1, 1, none⟩ = false := by go_simp
  have c_r_2 : ((w.alloc (.cells #[.int .i64 a, .int .i64 b, .slice p gs.length cap] 24)).alloc (.cells #[.int .i64 0, .int .i64 0, .slice none 0 0] 24)).cell? ⟨w.heap.size + 1, 2, none⟩ = some (.slice none 0 0) := by go_simp
  have f_r_2 : ((w.alloc (.cells #[.int .i64 a, .int .i64 b, .slice p gs.length cap] 24)).alloc (.cells #[.int .i64 0, .int .i64 0, .slice none 0 0] 24)).frozen? ⟨w.heap.size + 1, 2, none⟩ = false := by go_simp
  have hB1 := below_two hB0 hs1
  clear hB0 hs1
  generalize ((w.alloc (.cells #[.int .i64 a, .int .i64 b, .slice p gs.length cap] 24)).alloc (.cells #[.int .i64 0, .int .i64 0, .slice none 0 0] 24)) = w1 at *
  have z_r := World.block_lt_of_cell? _ _ c_r_0
  have z_x := World.block_lt_of_cell? _ _ c_x_0
  go_region_held3 (fun w' => w'.cell? ⟨w.heap.size, 0, none⟩ = some (.int .i64 a) ∧ w'.cell? ⟨w.heap.size, 1, none⟩ = some (.int .i64 b) ∧ w'.cell? ⟨w.heap.size, 2, none⟩ = some (.slice p gs.length cap) ∧ w'.cell? ⟨w.heap.size + 1, 0, none⟩ = some (.int .i64 0) ∧ w'.frozen? ⟨w.heap.size + 1, 0, none⟩ = false ∧ w'.cell? ⟨w.heap.size + 1, 1, none⟩ = some (.int .i64 0) ∧ w'.frozen? ⟨w.heap.size + 1, 1, none⟩ = false ∧ w'.cell? ⟨w.heap.size + 1, 2, none⟩ = some (.slice none 0 0) ∧ w'.frozen? ⟨w.heap.size + 1, 2, none⟩ = false ∧ Below w.heap.size w w')
    (((try go_split_ands); refine ⟨?_, ?_, ?_, ?_, ?_, ?_, ?_, ?_, ?_, ?_⟩ <;> first | with_reducible assumption | (with_reducible refine cell_later hq ?_; with_reducible assumption) | (with_reducible refine below_two ?_ hq; with_reducible assumption) | (with_reducible refine frozen_later (v := ?_) hq ?_ ?_; rotate_left; with_reducible assumption; with_reducible assumption) | (with_reducible refine cell_drew (alloc_cell ?_); with_reducible assumption) | (with_reducible refine frozen_drew (alloc_frozen (v := ?_) ?_ ?_); rotate_left; with_reducible assumption; with_reducible assumption) | (with_reducible refine Below.drew (alloc_below ?_); with_reducible assumption) | with_reducible exact cell_drew c_x_0 | with_reducible exact cell_drew c_x_1 | with_reducible exact cell_drew c_x_2 | with_reducible exact cell_drew c_r_0 | with_reducible exact frozen_drew f_r_0 | with_reducible exact cell_drew c_r_1 | with_reducible exact frozen_drew f_r_1 | with_reducible exact cell_drew c_r_2 | with_reducible exact frozen_drew f_r_2 | with_reducible exact hB1.drew))
    (first
      | (go_at_call 30; refine (pick_any _ _ _ ?_ ?_ ?_).mono ?_; (first | exact ia | exact ib); decide; decide; rintro e w2 ⟨rfl, rfl⟩; (first | rw [HX.out] | rw [HY.out])))
  all_goals
    have hs2 : Below w1.heap.size w1 (w1.alloc (.cells #[.int .i64 N, .int .i64 D, .slice none 0 0] 24)).drew := ((Below.refl _ _).alloc (Nat.le_refl _) _).drew
    have n_r_0 := cell_later hs2 c_r_0
    have m_r_0 := frozen_later hs2 c_r_0 f_r_0
    have n_x_0 := cell_later hs2 c_x_0
    have n_r_1 := cell_later hs2 c_r_1
    have m_r_1 := frozen_later hs2 c_r_1 f_r_1
    have n_x_1 := cell_later hs2 c_x_1
    have n_r_2 := cell_later hs2 c_r_2
    have m_r_2 := frozen_later hs2 c_r_2 f_r_2
    have n_x_2 := cell_later hs2 c_x_2
    have n_q_0 : (w1.alloc (.cells #[.int .i64 N, .int .i64 D, .slice none 0 0] 24)).drew.cell? ⟨w1.heap.size, 0, none⟩ = some (.int .i64 N) := by go_simp
    have m_q_0 : (w1.alloc (.cells #[.int .i64 N, .int .i64 D, .slice none 0 0] 24)).drew.frozen? ⟨w1.heap.size, 0, none⟩ = false := by go_simp
    have n_q_1 : (w1.alloc (.cells #[.int .i64 N, .int .i64 D, .slice none 0 0] 24)).drew.cell? ⟨w1.heap.size, 1, none⟩ = some (.int .i64 D) := by go_simp
    have m_q_1 : (w1.alloc (.cells #[.int .i64 N, .int .i64 D, .slice none 0 0] 24)).drew.frozen? ⟨w1.heap.size, 1, none⟩ = false := by go_simp
    have n_q_2 : (w1.alloc (.cells #[.int .i64 N, .int .i64 D, .slice none 0 0] 24)).drew.cell? ⟨w1.heap.size, 2, none⟩ = some (.slice none 0 0) := by go_simp
    have m_q_2 : (w1.alloc (.cells #[.int .i64 N, .int .i64 D, .slice none 0 0] 24)).drew.frozen? ⟨w1.heap.size, 2, none⟩ = false := by go_simp
    have hB2 := below_two hB1 hs2
    have y_r := World.block_lt_of_cell? _ _ c_r_0
    have y_q := World.block_lt_of_cell? _ _ n_q_0
    clear c_x_0 c_x_1 c_x_2 c_r_0 c_r_1 c_r_2 f_r_0 f_r_1 f_r_2 z_x z_r hB1 hs2 hN hD HX HY ia ib y0 y1
    generalize (w1.alloc (.cells #[.int .i64 N, .int .i64 D, .slice none 0 0] 24)).drew = w2 at *
    simp only at y_r y_q
    have hM0 : MkI N D gs [] w w1.heap.size (.slice p gs.length cap) (.slice none 0 0) w2 := ⟨n_q_0, n_q_1, n_q_2, m_q_2, n_x_2, n_r_0, n_r_1, n_r_2, m_r_0, m_r_1, m_r_2, World.ownsRow_nil _ _ _ _, HI.out, hB2, y_q, y_r⟩
    have HM0 := Lib.hid hM0
    clear hM0 n_r_0 n_r_1 n_r_2 m_r_0 m_r_1 m_r_2 n_x_0 n_x_1 n_x_2 n_q_1 n_q_2 m_q_0 m_q_1 m_q_2 hB2 HI
    go_wp2_with fail
    clear n_q_0
    go_loopw [6, 7] (fun a i wr => MkRel N D gs w w1.heap.size (.slice p gs.length cap) a i wr) (fun a _ _ => (intOf a).toNat)
    case atStart => exact ⟨[], _, N, Lib.hid (by simp [Met.tot]), rfl, rfl, Lib.hid (by simp), by omega, by omega, by simp, HM0⟩
    case round =>
      clear HM0
      obtain ⟨l, u, L, HL, rfl, rfl, HP, hL0, hL1, hl32, HM⟩ := hrel
      by_cases hpos : 0 < L
      · have m2 := HM.out.m2
        have x2 := HM.out.x2
        have zm := HM.out.hs
        have zx := HM.out.hx
        by_cases hi : l.length < gs.length
        · obtain ⟨z, hz⟩ : ∃ z, gs[l.length]? = some z := ⟨_, List.getElem?_eq_getElem hi⟩
          obtain ⟨p', cap', e1, _, hc⟩ := HM.out.ints
          cases e1
          obtain ⟨bb, oo, rfl, hcell⟩ := hc _ z hz
          replace hcell := cell_later HM.out.below hcell
          have iz := hgs.out z (List.mem_of_getElem? hz)
          obtain ⟨q0, q1⟩ := pickS_bounds z (n := 5) (by decide)
          obtain ⟨q, HQ⟩ : ∃ q, Hid (pickS z 5 = q) := ⟨_, Lib.hid rfl⟩
          rw [HQ.out] at q0 q1
          clear hc hz
          go_wp2_with fail
          refine (pick_is iz (by decide) (by decide) HQ.out _).mono ?_
          rintro e wx ⟨rfl, rfl⟩
          clear HQ iz
          by_cases hmin : 1 + q ≤ L
          · have hn1 : 1 ≤ 1 + q := by omega
            have hq : IntKind.i64.wrap (1 + q) = 1 + q := IntWalk.i64_in _ (by omega)
            obtain ⟨n, hnn⟩ : ∃ n, 1 + q = n := ⟨_, rfl⟩
            rw [hnn] at hn1 hmin hq
            clear q0 q1
            have HPP : Hid (∀ g ∈ l ++ [n], 1 ≤ g) := Lib.hid (fun g hg => (List.mem_append.1 hg).elim (HP.out g) (fun e => by simp at e; omega))
            have HTT : Hid (N - Met.tot (l ++ [n]) = L - n) := Lib.hid (by rw [Met.tot_append]; simp [Met.tot]; have := HL.out; omega)
            have HLN : Hid (l.length + 1 ≤ 32) := Lib.hid (by have := Met.tot_pos HPP.out; simp at this; have := HTT.out; omega)
            go_wp2_with (first | (at_builtin; refine wpList_append_lies _ rfl _ _ 22 rfl (w1.heap.size + 1) 3 i0 (.int .i64 0) 1 8 Try.underlying22 hi0 hz0 hz1 hz2 rfl (by decide) _ _ _ rfl (HM.out.own.alloc _) ⟨wr.heap.size, 0, none⟩ 1 1 [.int .i64 n] rfl rfl (cell_one _ _ _ rfl) (by intro u hu; simp at hu; subst hu; rfl) (by decide) (by unfold maxLen; omega) (by omega) (by simp; omega) _ rfl ?_; intro g' cap' w5 hown5 hgrow5 hat5 hlt5; obtain ⟨⟨k1, k2⟩, hM5⟩ := HM.out.app hown5 hgrow5; have HM5 := Lib.hid hM5; clear hM5 hown5 hgrow5 hat5 hlt5) | fail)
            exact ⟨⟨l ++ [n], _, L - n, Lib.hid (by have := HTT.out; omega), rfl, by simp, HPP, by omega, by omega, by have := HLN.out; simp; omega, HM5⟩, by simp [intOf]; omega⟩
          · have hmin' : L < 1 + q := by omega
            obtain ⟨n, hnn⟩ : ∃ n, L = n := ⟨_, rfl⟩
            have hq : IntKind.i64.wrap (1 + q) = 1 + q := IntWalk.i64_in _ (by omega)
            have hn1 : 1 ≤ n := by omega
            subst hnn
            have HPP : Hid (∀ g ∈ l ++ [L], 1 ≤ g) := Lib.hid (fun g hg => (List.mem_append.1 hg).elim (HP.out g) (fun e => by simp at e; omega))
            have HTT : Hid (N - Met.tot (l ++ [L]) = L - L) := Lib.hid (by rw [Met.tot_append]; simp [Met.tot]; have := HL.out; omega)
            have HLN : Hid (l.length + 1 ≤ 32) := Lib.hid (by have := Met.tot_pos HPP.out; simp at this; have := HTT.out; omega)
            go_wp2_with (first | (at_builtin; refine wpList_append_lies _ rfl _ _ 22 rfl (w1.heap.size + 1) 3 i0 (.int .i64 0) 1 8 Try.underlying22 hi0 hz0 hz1 hz2 rfl (by decide) _ _ _ rfl (HM.out.own.alloc _) ⟨wr.heap.size, 0, none⟩ 1 1 [.int .i64 L] rfl rfl (cell_one _ _ _ rfl) (by intro u hu; simp at hu; subst hu; rfl) (by decide) (by unfold maxLen; omega) (by omega) (by simp; omega) _ rfl ?_; intro g' cap' w5 hown5 hgrow5 hat5 hlt5; obtain ⟨⟨k1, k2⟩, hM5⟩ := HM.out.app hown5 hgrow5; have HM5 := Lib.hid hM5; clear hM5 hown5 hgrow5 hat5 hlt5) | fail)
            exact ⟨⟨l ++ [L], _, 0, Lib.hid (by have := HTT.out; omega), rfl, by simp, HPP, by omega, by omega, by have := HLN.out; simp; omega, HM5⟩, by simp [intOf]; omega⟩
        · clear hgs
          have HPP : Hid (∀ g ∈ l ++ [L], 1 ≤ g) := Lib.hid (fun g hg => (List.mem_append.1 hg).elim (HP.out g) (fun e => by simp at e; omega))
          have HTT : Hid (N - Met.tot (l ++ [L]) = L - L) := Lib.hid (by rw [Met.tot_append]; simp [Met.tot]; have := HL.out; omega)
          have HLN : Hid (l.length + 1 ≤ 32) := Lib.hid (by have := Met.tot_pos HPP.out; simp at this; have := HTT.out; omega)
          go_wp2_with (first | (at_builtin; refine wpList_append_lies _ rfl _ _ 22 rfl (w1.heap.size + 1) 3 i0 (.int .i64 0) 1 8 Try.underlying22 hi0 hz0 hz1 hz2 rfl (by decide) _ _ _ rfl (HM.out.own.alloc _) ⟨wr.heap.size, 0, none⟩ 1 1 [.int .i64 L] rfl rfl (cell_one _ _ _ rfl) (by intro u hu; simp at hu; subst hu; rfl) (by decide) (by unfold maxLen; omega) (by omega) (by simp; omega) _ rfl ?_; intro g' cap' w5 hown5 hgrow5 hat5 hlt5; obtain ⟨⟨k1, k2⟩, hM5⟩ := HM.out.app hown5 hgrow5; have HM5 := Lib.hid hM5; clear hM5 hown5 hgrow5 hat5 hlt5) | fail)
          exact ⟨⟨l ++ [L], _, 0, Lib.hid (by have := HTT.out; omega), rfl, by simp, HPP, by omega, by omega, by have := HLN.out; simp; omega, HM5⟩, by simp [intOf]; omega⟩
      · obtain rfl : L = 0 := by omega
        obtain ⟨m0, m1, m2, f2, x2, r0, r1, r2, g0, g1, g2, own, ints, hB, zm, zx⟩ := HM.out
        obtain ⟨pu, lu, cu, rfl⟩ : ∃ p n c, u = .slice p n c := by rcases own.2 with ⟨rfl, _⟩ | ⟨_, _, _, rfl, _⟩ <;> exact ⟨_, _, _, rfl⟩
        obtain ⟨e0, e1, e2⟩ := put3_of (x := .int .i64 N) (y := .int .i64 D) (z := .slice pu lu cu) r0 r1 r2
        have hint := (intsK_of (n₀ := 0) (by omega) (own_set (own_set (own_set own (show w.heap.size + 1 < w1.heap.size + 1 by omega)) (show w.heap.size + 1 < w1.heap.size + 1 by omega)) (show w.heap.size + 1 < w1.heap.size + 1 by omega) : (put3 wr (w.heap.size + 1) (.int .i64 N) (.int .i64 D) (.slice pu lu cu)).ownsRow _ _ _ _ _ _)).ints
        have HIN := Lib.hid hint
        clear own ints HM hint
        go_wp2
        exact bodyPost_ret (v := mt N D (.slice pu lu cu)) (by simp [results, Try.results11, go_sem, e0, e1, e2]) rfl ⟨⟨_, rfl, l, HIN.out, HP.out, by have := HL.out; omega⟩, put3_below hB (by omega)⟩
end Go.Proofs.Ytlodhfdikglgoaa
