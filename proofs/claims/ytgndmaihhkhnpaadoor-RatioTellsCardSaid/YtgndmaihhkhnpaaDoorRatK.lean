/-
  The contracts of pick and Ratio: of raw numbers, a right ratio.
-/
import Derived.Test.YtgndmaihhkhnpaaDoorRatJ
namespace Go.Proofs.YtgndmaihhkhnpaaDoor
open Go.RowKit

/-- Which of n things a raw number speaks of. -/
def pickS (c n : Int) : Int := (if c < 0 then -(c + 1) else c) % n
theorem pickS_bounds (c : Int) {n : Int} (h : 1 ≤ n) : 0 ≤ pickS c n ∧ pickS c n < n := by
  unfold pickS; exact ⟨Int.emod_nonneg _ (by omega), Int.emod_lt_of_pos _ (by omega)⟩

theorem pick_neg {c : Int} (h : Rat.I64 c) (hc : c < 0) : wrap64 (-wrap64 (c + 1)) = -(c + 1) := by unfold Rat.I64 at h; unfold wrap64; omega
theorem pick_in {c : Int} (h : Rat.I64 c) (hc : c < 0) : 0 ≤ -(c + 1) ∧ Rat.I64 (-(c + 1)) := by unfold Rat.I64 at *; omega

theorem mod_walk {x n : Int} (_h : Rat.I64 x) (h0 : 0 ≤ x) (hn : 1 ≤ n) (hn2 : n ≤ 2000001) : wrap64 (x.tmod n) = x % n := by
  rw [Int.tmod_eq_emod_of_nonneg h0]
  have a := Int.emod_nonneg x (show n ≠ 0 by omega)
  have b := Int.emod_lt_of_pos x (show 0 < n by omega)
  unfold wrap64; omega

set_option maxHeartbeats 1000000 in
theorem pick_any (c n : Int) (w : World) (hc : Rat.I64 c) (hn : 1 ≤ n) (hn2 : n ≤ 2000001) :
    Calls Tryd.prog 18 #[.int .i64 c, .int .i64 n] w fun e w' => e = .returned (.int .i64 (pickS c n)) ∧ w = w' := by
  have hz : (n == 0) = false := by simp; omega
  by_cases h : c < 0
  · have hx := pick_neg hc h
    obtain ⟨h0, hI⟩ := pick_in hc h
    have hm := mod_walk hI h0 hn hn2
    have HP : Hid (pickS c n = -(c + 1) % n) := Lib.hid (by unfold pickS; rw [if_pos h])
    generalize -(c + 1) = x at *
    go_enter Tryd.func18, Tryd.ntmps18
    go_wp2
    go_ret
    refine ⟨ret_int ?_, rfl⟩
    rw [HP.out]
  · have h0 : 0 ≤ c := by omega
    have hm := mod_walk hc h0 hn hn2
    have HP : Hid (pickS c n = c % n) := Lib.hid (by unfold pickS; rw [if_neg h])
    go_enter Tryd.func18, Tryd.ntmps18
    go_wp2
    go_ret
    refine ⟨ret_int ?_, rfl⟩
    rw [HP.out]

theorem stored_held_far {w : World} {B b o : Nat} {x y : Value} (h : b ≠ B) (hc : w.cell? ⟨b, o, none⟩ = some (heldAt w ⟨b, o, none⟩)) :
    ((w.setCell ⟨B, 0, none⟩ x).setCell ⟨B, 1, none⟩ y).cell? ⟨b, o, none⟩ = some (heldAt ((w.setCell ⟨B, 0, none⟩ x).setCell ⟨B, 1, none⟩ y) ⟨b, o, none⟩) := held_of (stored_far h hc)

def RatPost (w : World) (e : Ending) (w' : World) : Prop := ∃ n d, Rat.IsRight n d ∧ e = .returned (rt n d) ∧ Below w.heap.size w w'

theorem of_small {n d : Int} (h1 : 1 ≤ d) (h2 : d ≤ 1000000) (h3 : -1000000 ≤ n) (h4 : n ≤ 1000000) : Rat.ofE n d = 0 := by
  have hd : d ≠ 0 := by omega
  have hM := Rat.M_eq
  have t : Rat.top n d ≤ 1000000 := by
    unfold Rat.top
    have := Nat.div_le_self n.natAbs (Nat.gcd n.natAbs d.natAbs)
    omega
  have b : Rat.bot n d ≤ 1000000 := by
    unfold Rat.bot
    have := Nat.div_le_self d.natAbs (Nat.gcd n.natAbs d.natAbs)
    omega
  have hb : Rat.big n d = false := by unfold Rat.big; simp; omega
  unfold Rat.ofE; rw [if_neg hd, hb]; rfl

set_option maxRecDepth 100000 in
set_option maxHeartbeats 2000000 in
theorem ratio_ok (a b : Int) (w : World) (ha : Rat.I64 a) (hb : Rat.I64 b) (n d : Int) (HN : Hid (Rat.ofN a b = n ∧ Rat.ofD a b = d ∧ Rat.ofE a b = 0)) :
    Calls Tryd.prog 17 #[rt a b] w fun e w' => e = .returned (rt n d) ∧ Below w.heap.size w w' := by
  go_enter Tryd.func17, Tryd.ntmps17
  go_wp2_with fail
  refine (refOf_any _ _ _ ha hb).mono ?_
  rintro e w2 ⟨rfl, hb2⟩
  rw [HN.out.1, HN.out.2.1, HN.out.2.2]
  have hB : Below w.heap.size w w2 := Below.trans (by repeat (first | exact Below.refl _ _ | refine Below.alloc ?_ (by simp <;> omega) _)) (hb2.mono (by simp <;> omega))
  have c7 : w2.cell? ⟨w.heap.size + 1, 0, none⟩ = some (.int .i64 0) := (hb2.cell (by simp <;> omega)).trans (by go_simp)
  have c8 : w2.cell? ⟨w.heap.size + 1, 1, none⟩ = some (.int .i64 0) := (hb2.cell (by simp <;> omega)).trans (by go_simp)
  have f7 : w2.frozen? ⟨w.heap.size + 1, 0, none⟩ = false := (hb2.frozen (by simp <;> omega)).trans (by go_simp)
  have f8 : w2.frozen? ⟨w.heap.size + 1, 1, none⟩ = false := (hb2.frozen (by simp <;> omega)).trans (by go_simp)
  have z := World.block_lt_of_cell? _ _ c7
  clear hb2
  have m0 := stored_0 (x := .int .i64 n) (y := .int .i64 d) (held_of c7)
  have m1 := stored_1 (x := .int .i64 n) (y := .int .i64 d) (held_of c8)
  go_wp2
  exact bodyPost_ret (v := rt n d) (by simp [results, Tryd.results17, go_sem, m0, m1, z]) rfl ⟨rfl, (stored_below hB (by omega)).alloc (by have := hB.size; simp; omega) _⟩

set_option maxRecDepth 100000 in
set_option maxHeartbeats 4000000 in
theorem ratio_no (a b : Int) (w : World) (ha : Rat.I64 a) (hb : Rat.I64 b) (h0 : Rat.ofE a b ≠ 0) (x y n d : Int) (HX : Hid (pickS a 2000001 = x ∧ pickS b 1000000 = y))
    (u v : Int) (hu : IntKind.i64.wrap (x - 1000000) = u) (hv : IntKind.i64.wrap (1 + y) = v) (ix : Rat.I64 u) (iy : Rat.I64 v) (HN : Hid (Rat.ofN u v = n ∧ Rat.ofD u v = d)) :
    Calls Tryd.prog 17 #[rt a b] w fun e w' => e = .returned (rt n d) ∧ Below w.heap.size w w' := by
  have hz : (Rat.ofE a b == 0) = false := by simp; omega
  go_enter Tryd.func17, Tryd.ntmps17
  go_wp2_with fail
  refine (refOf_any _ _ _ ha hb).mono ?_
  rintro e w2 ⟨rfl, hb2⟩
  have hB2 : Below w.heap.size w w2 := Below.trans (by repeat (first | exact Below.refl _ _ | refine Below.alloc ?_ (by simp <;> omega) _)) (hb2.mono (by simp <;> omega))
  have c3 : w2.cell? ⟨w.heap.size, 0, none⟩ = some (.int .i64 a) := (hb2.cell (by simp <;> omega)).trans (by go_simp)
  have c4 : w2.cell? ⟨w.heap.size, 1, none⟩ = some (.int .i64 b) := (hb2.cell (by simp <;> omega)).trans (by go_simp)
  have c7 : w2.cell? ⟨w.heap.size + 1, 0, none⟩ = some (.int .i64 0) := (hb2.cell (by simp <;> omega)).trans (by go_simp)
  have c8 : w2.cell? ⟨w.heap.size + 1, 1, none⟩ = some (.int .i64 0) := (hb2.cell (by simp <;> omega)).trans (by go_simp)
  have f7 : w2.frozen? ⟨w.heap.size + 1, 0, none⟩ = false := (hb2.frozen (by simp <;> omega)).trans (by go_simp)
  have f8 : w2.frozen? ⟨w.heap.size + 1, 1, none⟩ = false := (hb2.frozen (by simp <;> omega)).trans (by go_simp)
  clear hb2
  generalize Rat.ofN a b = r1 at *
  generalize Rat.ofD a b = r2 at *
  generalize Rat.ofE a b = r3 at *
  have z := World.block_lt_of_cell? _ _ c7
  simp only at z
  go_wp2_with fail
  have hq := (Below.refl w2.heap.size w2).alloc (Nat.le_refl _) (.cells #[.int .i64 r1, .int .i64 r2] 23)
  have t0 : (w2.alloc (.cells #[.int .i64 r1, .int .i64 r2] 23)).cell? ⟨w2.heap.size, 0, none⟩ = some (.int .i64 r1) := by go_simp
  have t1 : (w2.alloc (.cells #[.int .i64 r1, .int .i64 r2] 23)).cell? ⟨w2.heap.size, 1, none⟩ = some (.int .i64 r2) := by go_simp
  have g0 : (w2.alloc (.cells #[.int .i64 r1, .int .i64 r2] 23)).frozen? ⟨w2.heap.size, 0, none⟩ = false := by go_simp
  have g1 : (w2.alloc (.cells #[.int .i64 r1, .int .i64 r2] 23)).frozen? ⟨w2.heap.size, 1, none⟩ = false := by go_simp
  have hB := below_two hB2 hq
  replace f7 := frozen_later hq c7 f7
  replace f8 := frozen_later hq c8 f8
  replace c3 := cell_later hq c3
  replace c4 := cell_later hq c4
  replace c7 := cell_later hq c7
  replace c8 := cell_later hq c8
  generalize w2.alloc (.cells #[.int .i64 r1, .int .i64 r2] 23) = w3 at *
  generalize w2.heap.size = T at *
  clear hq hB2
  have c9 : w3.cell? ⟨w.heap.size + 1, 0, none⟩ = some (heldAt w3 ⟨w.heap.size + 1, 0, none⟩) := held_of c7
  have c10 : w3.cell? ⟨w.heap.size + 1, 1, none⟩ = some (heldAt w3 ⟨w.heap.size + 1, 1, none⟩) := held_of c8
  have c11 : w3.cell? ⟨T, 0, none⟩ = some (heldAt w3 ⟨T, 0, none⟩) := held_of t0
  have c12 : w3.cell? ⟨T, 1, none⟩ = some (heldAt w3 ⟨T, 1, none⟩) := held_of t1
  clear c7 c8 t0 t1
  have n1 : w.heap.size ≠ T := by clear hu hv; omega
  have n2 : w.heap.size + 1 ≠ T := by clear hu hv; omega
  have n3 : w.heap.size ≤ T := by clear hu hv; omega
  go_region_held3 (fun w' => w'.cell? ⟨w.heap.size, 0, none⟩ = some (.int .i64 a) ∧ w'.cell? ⟨w.heap.size, 1, none⟩ = some (.int .i64 b) ∧
      w'.cell? ⟨w.heap.size + 1, 0, none⟩ = some (heldAt w' ⟨w.heap.size + 1, 0, none⟩) ∧ w'.cell? ⟨w.heap.size + 1, 1, none⟩ = some (heldAt w' ⟨w.heap.size + 1, 1, none⟩) ∧
      w'.cell? ⟨T, 0, none⟩ = some (heldAt w' ⟨T, 0, none⟩) ∧ w'.cell? ⟨T, 1, none⟩ = some (heldAt w' ⟨T, 1, none⟩) ∧
      w'.frozen? ⟨w.heap.size + 1, 0, none⟩ = false ∧ w'.frozen? ⟨w.heap.size + 1, 1, none⟩ = false ∧ w'.frozen? ⟨T, 0, none⟩ = false ∧ w'.frozen? ⟨T, 1, none⟩ = false ∧ Below w.heap.size w w')
    (((try go_split_ands); refine ⟨?_, ?_, ?_, ?_, ?_, ?_, ?_, ?_, ?_, ?_, ?_⟩ <;> first | assumption | (refine cell_later hq ?_; assumption) | (refine held_later hq ?_; assumption) | (refine frozen_held hq ?_ ?_ <;> assumption) | (refine below_two ?_ hq; assumption) | exact c3 | exact c4 | exact f7 | exact f8 | exact g0 | exact g1 | exact hB.drew | exact held_of (w := w3.drew) c9 | exact held_of (w := w3.drew) c10 | exact held_of (w := w3.drew) c11 | exact held_of (w := w3.drew) c12 | (refine stored_far ?_ ?_ <;> assumption) | (refine stored_held ?_; assumption) | (refine stored_held_far ?_ ?_ <;> assumption) | (refine stored_frozen ?_; assumption) | (refine stored_below ?_ ?_ <;> assumption)))
    (first
      | (go_at_call 18; refine (pick_any _ _ _ ?_ ?_ ?_).mono ?_; (first | exact ha | exact hb); decide; decide; rintro e w' ⟨rfl, rfl⟩; (first | rw [HX.out.1] | rw [HX.out.2]))
      | (go_at_call 13; refine (refOf_any _ _ _ ix iy).mono ?_; rintro e w' ⟨rfl, hq⟩; rw [HN.out.1, HN.out.2]))
  rename_i hS
  have m0 := stored_0 (x := .int .i64 n) (y := .int .i64 d) (held_later hq (held_of (w := w3.drew) c11))
  have m1 := stored_1 (x := .int .i64 n) (y := .int .i64 d) (held_later hq (held_of (w := w3.drew) c12))
  obtain ⟨-, -, s9, s10, -, -, g7, g8, -, -, hBl⟩ := hS
  clear hu hv hq c3 c4 c9 c10 c11 c12 f7 f8 g0 g1 hB
  generalize (w'.setCell ⟨T, 0, none⟩ (.int .i64 n)).setCell ⟨T, 1, none⟩ (.int .i64 d) = w5 at *
  have e0 := stored_0 (x := .int .i64 n) (y := .int .i64 d) s9
  have e1 := stored_1 (x := .int .i64 n) (y := .int .i64 d) s10
  go_wp2
  exact bodyPost_ret (v := rt n d) (by simp [results, Tryd.results17, go_sem, e0, e1]) rfl ⟨rfl, stored_below hBl (by omega)⟩

theorem ratio_any (a b : Int) (w : World) (ha : Rat.I64 a) (hb : Rat.I64 b) :
    Calls Tryd.prog 17 #[rt a b] w (RatPost w) := by
  by_cases h0 : Rat.ofE a b = 0
  · exact (ratio_ok a b w ha hb _ _ (Lib.hid ⟨rfl, rfl, h0⟩)).mono fun _ _ ⟨he, hw⟩ => ⟨_, _, (Rat.of_sound h0).1, he, hw⟩
  · obtain ⟨x0, x1⟩ := pickS_bounds a (n := 2000001) (by decide)
    obtain ⟨y0, y1⟩ := pickS_bounds b (n := 1000000) (by decide)
    generalize hx : pickS a 2000001 = x at *
    generalize hy : pickS b 1000000 = y at *
    have hu : IntKind.i64.wrap (x - 1000000) = x - 1000000 := IntWalk.i64_in _ (by omega)
    have hv : IntKind.i64.wrap (1 + y) = 1 + y := IntWalk.i64_in _ (by omega)
    have hE : Rat.ofE (x - 1000000) (1 + y) = 0 := of_small (by omega) (by omega) (by omega) (by omega)
    exact (ratio_no a b w ha hb h0 x y _ _ (Lib.hid ⟨hx, hy⟩) (x - 1000000) (1 + y) hu hv (i64_small (by omega) (by omega)) (i64_small (by omega) (by omega)) (Lib.hid ⟨rfl, rfl⟩)).mono fun _ _ ⟨he, hw⟩ => ⟨_, _, (Rat.of_sound hE).1, he, hw⟩
end Go.Proofs.YtgndmaihhkhnpaaDoor
