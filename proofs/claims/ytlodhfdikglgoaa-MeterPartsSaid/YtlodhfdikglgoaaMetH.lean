/-
  The contracts of slices.Equal, meter.Same, the reference's Ratios, and the statements' own pick.
-/
import Derived.Test.YtlodhfdikglgoaaMetG
namespace Go.Proofs.Ytlodhfdikglgoaa
open Go.RowKit

theorem take_eq {α : Type} {xs ys : List α} {k : Nat} {x y : α} (hx : xs[k]? = some x) (hy : ys[k]? = some y) (h : xs.take k = ys.take k) (e : x = y) : xs.take (k + 1) = ys.take (k + 1) := by
  rw [Met.take_succ_at hx, Met.take_succ_at hy, h, e]
theorem ne_at {α : Type} {xs ys : List α} {k : Nat} {x y : α} (hx : xs[k]? = some x) (hy : ys[k]? = some y) (e : x ≠ y) : xs ≠ ys := by
  rintro rfl; rw [hx] at hy; exact e (Option.some.inj hy)
theorem eq_all {α : Type} {xs ys : List α} (hl : xs.length = ys.length) (h : xs.take xs.length = ys.take xs.length) : xs = ys := by
  rw [List.take_length, hl, List.take_length] at h; exact h
def EqRel {α : Type} (xs ys : List α) (w : World) (i : Value) (wr : World) : Prop := ∃ k : Nat, k ≤ xs.length ∧ i = .int .i64 (k : Int) ∧ xs.take k = ys.take k ∧ Below w.heap.size w wr

set_option maxRecDepth 100000 in
set_option maxHeartbeats 4000000 in
theorem equal_ne (v u : Value) (xs ys : List Int) (w : World) (h1 : Ints w v xs) (h2 : Ints w u ys) (hl : xs.length ≠ ys.length) :
    Calls Try.prog 38 #[v, u] w fun ed w' => ed = .returned (.bool false) ∧ Below w.heap.size w w' := by
  obtain ⟨p1, cap1, rfl, hl1, hc1⟩ := h1
  obtain ⟨p2, cap2, rfl, hl2, hc2⟩ := h2
  have hne : ((xs.length : Int) != (ys.length : Int)) = true := by simp; omega
  clear hc1 hc2
  go_enter Try.func38, Try.ntmps38
  go_wp2
  go_ret
  exact ⟨rfl, Below.refl _ _⟩

set_option maxRecDepth 100000 in
set_option maxHeartbeats 4000000 in
theorem equal_any (v u : Value) (xs ys : List Int) (w : World) (h1 : Ints w v xs) (h2 : Ints w u ys) :
    Calls Try.prog 38 #[v, u] w fun ed w' => ed = .returned (.bool (decide (xs = ys))) ∧ Below w.heap.size w w' := by
  by_cases hl : xs.length = ys.length
  case neg => rw [decide_eq_false (fun e => hl (by rw [e]))]; exact equal_ne v u xs ys w h1 h2 hl
  case pos =>
  obtain ⟨p1, cap1, rfl, hl1, hc1⟩ := h1
  obtain ⟨p2, cap2, rfl, hl2, hc2⟩ := h2
  have HC1 := Lib.hid hc1
  have HC2 := Lib.hid hc2
  have HL := Lib.hid hl
  rw [← hl]
  have hgR := guardR
  have hnR := neq_rt
  have hne : ((xs.length : Int) != (xs.length : Int)) = false := by simp
  clear hc1 hc2 hl hl2
  go_enter Try.func38, Try.ntmps38
  go_wp2
  go_loopw [13] (fun i wr => EqRel xs ys w i wr) (fun i _ => xs.length - (intOf i).toNat)
  case atStart => exact ⟨0, Nat.zero_le _, rfl, rfl, Below.refl _ _⟩
  case round =>
    obtain ⟨k, hk, rfl, he, hB⟩ := hrel
    have HE := Lib.hid he
    clear he
    by_cases hlt : k < xs.length
    · obtain ⟨x, hx⟩ : ∃ x, xs[k]? = some x := ⟨_, List.getElem?_eq_getElem hlt⟩
      obtain ⟨y, hy⟩ : ∃ y, ys[k]? = some y := ⟨_, List.getElem?_eq_getElem (by have := HL.out; omega)⟩
      obtain ⟨b1, o1, e1, hcx⟩ := HC1.out k x hx
      obtain ⟨b2, o2, e2, hcy⟩ := HC2.out k y hy
      subst e1 e2
      have hcx := cell_later hB hcx
      have hcy := cell_later hB hcy
      have HX := Lib.hid hx
      have HY := Lib.hid hy
      have hlt' : (k : Int) < (xs.length : Int) := by omega
      clear hx hy
      go_wp2_with fail
      go_quiet (fail)
      go_wp2
      · have hxy : x ≠ y := by have : (x != y) = true := by assumption
                               simpa using this
        go_ret
        exact ⟨ret_bool (decide_eq_false (ne_at HX.out HY.out hxy)).symm, below_drewN hB _⟩
      · have hxy : x = y := by have : (x != y) = false := by assumption
                               simpa using this
        go_roundw
        case rel => exact ⟨k + 1, by omega, by go_num, take_eq HX.out HY.out HE.out hxy, below_drewN hB _⟩
        case measure => simp [intOf]; omega
    · obtain rfl : k = xs.length := by omega
      go_wp2
      go_ret
      exact ⟨ret_bool (decide_eq_true (eq_all HL.out HE.out)).symm, hB⟩

set_option maxRecDepth 100000 in
set_option maxHeartbeats 4000000 in
theorem ratios_ne (v u : Value) (xs ys : List Met.Pr) (w : World) (h1 : Prs w v xs) (h2 : Prs w u ys) (hl : xs.length ≠ ys.length) :
    Calls Try.prog 20 #[v, u] w fun ed w' => ed = .returned (.bool false) ∧ Below w.heap.size w w' := by
  obtain ⟨p1, cap1, rfl, hl1, hc1⟩ := h1
  obtain ⟨p2, cap2, rfl, hl2, hc2⟩ := h2
  have hne : ((xs.length : Int) != (ys.length : Int)) = true := by simp; omega
  clear hc1 hc2
  go_enter Try.func20, Try.ntmps20
  go_wp2
  go_ret
  exact ⟨rfl, Below.refl _ _⟩

set_option maxRecDepth 100000 in
set_option maxHeartbeats 4000000 in
theorem ratios_any (v u : Value) (xs ys : List Met.Pr) (w : World) (h1 : Prs w v xs) (h2 : Prs w u ys) :
    Calls Try.prog 20 #[v, u] w fun ed w' => ed = .returned (.bool (decide (xs = ys))) ∧ Below w.heap.size w w' := by
  by_cases hl : xs.length = ys.length
  case neg => rw [decide_eq_false (fun e => hl (by rw [e]))]; exact ratios_ne v u xs ys w h1 h2 hl
  case pos =>
  obtain ⟨p1, cap1, rfl, hl1, hc1⟩ := h1
  obtain ⟨p2, cap2, rfl, hl2, hc2⟩ := h2
  have HC1 := Lib.hid hc1
  have HC2 := Lib.hid hc2
  have HL := Lib.hid hl
  rw [← hl]
  have hgR := guardR
  have hnR := neq_rt
  have hne : ((xs.length : Int) != (xs.length : Int)) = false := by simp
  clear hc1 hc2 hl hl2
  go_enter Try.func20, Try.ntmps20
  go_wp2
  go_loopw [5] (fun i wr => EqRel xs ys w i wr) (fun i _ => xs.length - (intOf i).toNat)
  case atStart => exact ⟨0, Nat.zero_le _, rfl, rfl, Below.refl _ _⟩
  case round =>
    obtain ⟨k, hk, rfl, he, hB⟩ := hrel
    have HE := Lib.hid he
    clear he
    by_cases hlt : k < xs.length
    · obtain ⟨x, hx⟩ : ∃ x, xs[k]? = some x := ⟨_, List.getElem?_eq_getElem hlt⟩
      obtain ⟨y, hy⟩ : ∃ y, ys[k]? = some y := ⟨_, List.getElem?_eq_getElem (by have := HL.out; omega)⟩
      obtain ⟨b1, o1, e1, hcx, hcx'⟩ := HC1.out k x hx
      obtain ⟨b2, o2, e2, hcy, hcy'⟩ := HC2.out k y hy
      subst e1 e2
      have hcx := cell_later hB hcx
      have hcx' := cell_later hB hcx'
      have hcy := cell_later hB hcy
      have hcy' := cell_later hB hcy'
      have HX := Lib.hid hx
      have HY := Lib.hid hy
      have hlt' : (k : Int) < (xs.length : Int) := by omega
      clear hx hy
      obtain ⟨x0, x1⟩ := x
      obtain ⟨y0, y1⟩ := y
      dsimp only at hcx hcx' hcy hcy'
      go_wp2_with fail
      go_quiet (fail)
      go_wp2
      · have hxy : (x0, x1) ≠ (y0, y1) := by
          have : (!eqR x0 x1 y0 y1) = true := by assumption
          intro e; cases e; rw [eqR_self] at this; cases this
        go_ret
        exact ⟨ret_bool (decide_eq_false (ne_at HX.out HY.out hxy)).symm, below_drewN hB _⟩
      · have hxy : (x0, x1) = (y0, y1) := by
          have : (!eqR x0 x1 y0 y1) = false := by assumption
          have h2 : eqR x0 x1 y0 y1 = true := by simpa using this
          obtain ⟨rfl, rfl⟩ := (eqR_iff _ _ _ _).1 h2
          rfl
        go_roundw
        case rel => exact ⟨k + 1, by omega, by go_num, take_eq HX.out HY.out HE.out hxy, below_drewN hB _⟩
        case measure => simp [intOf]; omega
    · obtain rfl : k = xs.length := by omega
      go_wp2
      go_ret
      exact ⟨ret_bool (decide_eq_true (eq_all HL.out HE.out)).symm, hB⟩

set_option maxRecDepth 100000 in
set_option maxHeartbeats 4000000 in
theorem msame_0 (n d n' d' : Int) (v u : Value) (xs ys : List Int) (w : World) (h1 : Ints w v xs) (h2 : Ints w u ys) (hn : n ≠ n') :
    Calls Try.prog 18 #[mt n d v, mt n' d' u] w fun ed w' => ed = .returned (.bool false) ∧ Below w.heap.size w w' := by
  obtain ⟨p1, cap1, rfl, hl1, hc1⟩ := h1
  obtain ⟨p2, cap2, rfl, hl2, hc2⟩ := h2
  have H1 : Hid (Ints w (.slice p1 xs.length cap1) xs) := Lib.hid ⟨p1, cap1, rfl, hl1, hc1⟩
  have H2 : Hid (Ints w (.slice p2 ys.length cap2) ys) := Lib.hid ⟨p2, cap2, rfl, hl2, hc2⟩
  clear hl1 hc1 hl2 hc2
  have hq : (n == n') = false := beq_eq_false_iff_ne.2 hn
  have hB0 : Below w.heap.size w w := Below.refl _ _
  go_enter Try.func18, Try.ntmps18
  go_wp2
  go_ret
  exact ⟨rfl, ((hB0.alloc hB0.size (.cells #[.int .i64 n, .int .i64 d, .slice p1 xs.length cap1] 24)).alloc (hB0.alloc hB0.size (.cells #[.int .i64 n, .int .i64 d, .slice p1 xs.length cap1] 24)).size (.cells #[.int .i64 (n'), .int .i64 (d'), .slice p2 ys.length cap2] 24))⟩

set_option maxRecDepth 100000 in
set_option maxHeartbeats 4000000 in
theorem msame_1 (n d n' d' : Int) (v u : Value) (xs ys : List Int) (w : World) (h1 : Ints w v xs) (h2 : Ints w u ys) (hn : n = n') (hd : d ≠ d') :
    Calls Try.prog 18 #[mt n d v, mt n' d' u] w fun ed w' => ed = .returned (.bool false) ∧ Below w.heap.size w w' := by
  obtain ⟨p1, cap1, rfl, hl1, hc1⟩ := h1
  obtain ⟨p2, cap2, rfl, hl2, hc2⟩ := h2
  have H1 : Hid (Ints w (.slice p1 xs.length cap1) xs) := Lib.hid ⟨p1, cap1, rfl, hl1, hc1⟩
  have H2 : Hid (Ints w (.slice p2 ys.length cap2) ys) := Lib.hid ⟨p2, cap2, rfl, hl2, hc2⟩
  clear hl1 hc1 hl2 hc2
  subst hn
  have hq : (n == n) = true := by simp
  have hq2 : (d == d') = false := beq_eq_false_iff_ne.2 hd
  have hB0 : Below w.heap.size w w := Below.refl _ _
  go_enter Try.func18, Try.ntmps18
  go_wp2
  go_ret
  exact ⟨rfl, ((hB0.alloc hB0.size (.cells #[.int .i64 n, .int .i64 d, .slice p1 xs.length cap1] 24)).alloc (hB0.alloc hB0.size (.cells #[.int .i64 n, .int .i64 d, .slice p1 xs.length cap1] 24)).size (.cells #[.int .i64 n, .int .i64 (d'), .slice p2 ys.length cap2] 24))⟩

set_option maxRecDepth 100000 in
set_option maxHeartbeats 4000000 in
theorem msame_2 (n d n' d' : Int) (v u : Value) (xs ys : List Int) (w : World) (h1 : Ints w v xs) (h2 : Ints w u ys) (hn : n = n') (hd : d = d') :
    Calls Try.prog 18 #[mt n d v, mt n' d' u] w fun ed w' => ed = .returned (.bool (decide (xs = ys))) ∧ Below w.heap.size w w' := by
  obtain ⟨p1, cap1, rfl, hl1, hc1⟩ := h1
  obtain ⟨p2, cap2, rfl, hl2, hc2⟩ := h2
  have H1 : Hid (Ints w (.slice p1 xs.length cap1) xs) := Lib.hid ⟨p1, cap1, rfl, hl1, hc1⟩
  have H2 : Hid (Ints w (.slice p2 ys.length cap2) ys) := Lib.hid ⟨p2, cap2, rfl, hl2, hc2⟩
  clear hl1 hc1 hl2 hc2
  subst hn
  have hq : (n == n) = true := by simp
  subst hd
  have hq2 : (d == d) = true := by simp
  have hB0 : Below w.heap.size w w := Below.refl _ _
  go_enter Try.func18, Try.ntmps18
  go_wp2_with fail
  refine (equal_any _ _ xs ys _ (H1.out.later ((hB0.alloc hB0.size (.cells #[.int .i64 n, .int .i64 d, .slice p1 xs.length cap1] 24)).alloc (hB0.alloc hB0.size (.cells #[.int .i64 n, .int .i64 d, .slice p1 xs.length cap1] 24)).size (.cells #[.int .i64 n, .int .i64 d, .slice p2 ys.length cap2] 24))) (H2.out.later ((hB0.alloc hB0.size (.cells #[.int .i64 n, .int .i64 d, .slice p1 xs.length cap1] 24)).alloc (hB0.alloc hB0.size (.cells #[.int .i64 n, .int .i64 d, .slice p1 xs.length cap1] 24)).size (.cells #[.int .i64 n, .int .i64 d, .slice p2 ys.length cap2] 24)))).mono ?_
  rintro e w1 ⟨rfl, hb1⟩
  have hs1 : Below w.heap.size w w1 := Below.trans (by repeat (first | exact Below.refl _ _ | refine Below.alloc ?_ (by simp <;> omega) _)) (hb1.mono (by simp <;> omega))
  have c_m_0 : w1.cell? ⟨w.heap.size, 0, none⟩ = some (.int .i64 n) := (hb1.cell (by simp <;> omega)).trans (by go_simp)
  have c_m_1 : w1.cell? ⟨w.heap.size, 1, none⟩ = some (.int .i64 d) := (hb1.cell (by simp <;> omega)).trans (by go_simp)
  have c_m_2 : w1.cell? ⟨w.heap.size, 2, none⟩ = some (.slice p1 xs.length cap1) := (hb1.cell (by simp <;> omega)).trans (by go_simp)
  have c_k_0 : w1.cell? ⟨w.heap.size + 1, 0, none⟩ = some (.int .i64 n) := (hb1.cell (by simp <;> omega)).trans (by go_simp)
  have c_k_1 : w1.cell? ⟨w.heap.size + 1, 1, none⟩ = some (.int .i64 d) := (hb1.cell (by simp <;> omega)).trans (by go_simp)
  have c_k_2 : w1.cell? ⟨w.heap.size + 1, 2, none⟩ = some (.slice p2 ys.length cap2) := (hb1.cell (by simp <;> omega)).trans (by go_simp)
  have z_k := World.block_lt_of_cell? _ _ c_k_0
  have z_m := World.block_lt_of_cell? _ _ c_m_0
  have hB1 := below_two hB0 hs1
  clear hB0 hs1 hb1
  go_wp2
  go_ret
  exact ⟨rfl, hB1⟩

theorem msame_any (n d n' d' : Int) (v u : Value) (xs ys : List Int) (w : World) (h1 : Ints w v xs) (h2 : Ints w u ys) :
    Calls Try.prog 18 #[mt n d v, mt n' d' u] w fun ed w' => ed = .returned (.bool (decide (n = n' ∧ d = d' ∧ xs = ys))) ∧ Below w.heap.size w w' := by
  by_cases hn : n = n'
  · by_cases hd : d = d'
    · have := msame_2 n d n' d' v u xs ys w h1 h2 hn hd
      rw [show decide (n = n' ∧ d = d' ∧ xs = ys) = decide (xs = ys) from decide_eq_decide.2 ⟨fun h => h.2.2, fun h => ⟨hn, hd, h⟩⟩]
      exact this
    · rw [decide_eq_false (fun h => hd h.2.1)]; exact msame_1 n d n' d' v u xs ys w h1 h2 hn hd
  · rw [decide_eq_false (fun h => hn h.1)]; exact msame_0 n d n' d' v u xs ys w h1 h2 hn

/-- Which of n things a raw number speaks of. -/
def pickS (c n : Int) : Int := (if c < 0 then -(c + 1) else c) % n
theorem pickS_bounds (c : Int) {n : Int} (h : 1 ≤ n) : 0 ≤ pickS c n ∧ pickS c n < n := by
  unfold pickS; exact ⟨Int.emod_nonneg _ (by omega), Int.emod_lt_of_pos _ (by omega)⟩

theorem pick_neg {c : Int} (h : Rat.I64 c) (hc : c < 0) : wrap64 (-wrap64 (c + 1)) = -(c + 1) := by unfold Rat.I64 at h; unfold wrap64; omega
theorem pick_in {c : Int} (h : Rat.I64 c) (hc : c < 0) : 0 ≤ -(c + 1) ∧ Rat.I64 (-(c + 1)) := by unfold Rat.I64 at *; omega

theorem mod_walk {x n : Int} (_h : Rat.I64 x) (h0 : 0 ≤ x) (hn : 1 ≤ n) (hn2 : n ≤ 2000001) : wrap64 (x.tmod n) = x % n := by
  rw [Int.tmod_eq_emod_of_nonneg h0]
  have a := Int.emod_nonneg x (show n ≠ 0 by omega)
  have b := Int.emod_lt_of_pos x (show 0 < n by omega)
  unfold wrap64; omega

set_option maxHeartbeats 1000000 in
theorem pick_any (c n : Int) (w : World) (hc : Rat.I64 c) (hn : 1 ≤ n) (hn2 : n ≤ 2000001) :
    Calls Try.prog 30 #[.int .i64 c, .int .i64 n] w fun e w' => e = .returned (.int .i64 (pickS c n)) ∧ w = w' := by
  have hz : (n == 0) = false := by simp; omega
  by_cases h : c < 0
  · have hx := pick_neg hc h
    obtain ⟨h0, hI⟩ := pick_in hc h
    have hm := mod_walk hI h0 hn hn2
    have HP : Hid (pickS c n = -(c + 1) % n) := Lib.hid (by unfold pickS; rw [if_pos h])
    generalize -(c + 1) = x at *
    go_enter Try.func30, Try.ntmps30
    go_wp2
    go_ret
    refine ⟨ret_int ?_, rfl⟩
    rw [HP.out]
  · have h0 : 0 ≤ c := by omega
    have hm := mod_walk hc h0 hn hn2
    have HP : Hid (pickS c n = c % n) := Lib.hid (by unfold pickS; rw [if_neg h])
    go_enter Try.func30, Try.ntmps30
    go_wp2
    go_ret
    refine ⟨ret_int ?_, rfl⟩
    rw [HP.out]


theorem pick_is {c n x : Int} (hc : Rat.I64 c) (hn : 1 ≤ n) (hn2 : n ≤ 2000001) (h : pickS c n = x) (w : World) :
    Calls Try.prog 30 #[.int .i64 c, .int .i64 n] w fun e w' => e = .returned (.int .i64 x) ∧ w = w' := by
  have := pick_any c n w hc hn hn2; rw [h] at this; exact this
end Go.Proofs.Ytlodhfdikglgoaa
