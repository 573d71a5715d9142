/-
  The contracts of the reference's Same, Groups and Beats.
-/
import Derived.Test.YtlodhfdikglgoaaMetN
namespace Go.Proofs.Ytlodhfdikglgoaa
open Go.RowKit

set_option maxRecDepth 100000 in
set_option maxHeartbeats 4000000 in
theorem refSame_0 (n d n' d' : Int) (v u : Value) (xs ys : List Int) (w : World) (h1 : Ints w v xs) (h2 : Ints w u ys) (hn : n ≠ n') :
    Calls Try.prog 19 #[mt n d v, mt n' d' u] w fun ed w' => ed = .returned (.bool false) ∧ Below w.heap.size w w' := by
  obtain ⟨p1, cap1, rfl, hl1, hc1⟩ := h1
  obtain ⟨p2, cap2, rfl, hl2, hc2⟩ := h2
  clear hl1 hc1 hl2 hc2
  have hq : (n != n') = true := by simp [hn]
  have hB0 : Below w.heap.size w w := Below.refl _ _
  go_enter Try.func19, Try.ntmps19
  go_wp2
  go_ret
  exact ⟨rfl, ((hB0.alloc hB0.size (.cells #[.int .i64 n, .int .i64 d, .slice p1 xs.length cap1] 24)).alloc (hB0.alloc hB0.size (.cells #[.int .i64 n, .int .i64 d, .slice p1 xs.length cap1] 24)).size (.cells #[.int .i64 (n'), .int .i64 (d'), .slice p2 ys.length cap2] 24))⟩

set_option maxRecDepth 100000 in
set_option maxHeartbeats 4000000 in
theorem refSame_1 (n d n' d' : Int) (v u : Value) (xs ys : List Int) (w : World) (h1 : Ints w v xs) (h2 : Ints w u ys) (hn : n = n') (hd : d ≠ d') :
    Calls Try.prog 19 #[mt n d v, mt n' d' u] w fun ed w' => ed = .returned (.bool false) ∧ Below w.heap.size w w' := by
  obtain ⟨p1, cap1, rfl, hl1, hc1⟩ := h1
  obtain ⟨p2, cap2, rfl, hl2, hc2⟩ := h2
  clear hl1 hc1 hl2 hc2
  subst hn
  have hq : (n != n) = false := by simp
  have hq2 : (d != d') = true := by simp [hd]
  have hB0 : Below w.heap.size w w := Below.refl _ _
  go_enter Try.func19, Try.ntmps19
  go_wp2
  go_ret
  exact ⟨rfl, ((hB0.alloc hB0.size (.cells #[.int .i64 n, .int .i64 d, .slice p1 xs.length cap1] 24)).alloc (hB0.alloc hB0.size (.cells #[.int .i64 n, .int .i64 d, .slice p1 xs.length cap1] 24)).size (.cells #[.int .i64 n, .int .i64 (d'), .slice p2 ys.length cap2] 24))⟩

set_option maxRecDepth 100000 in
set_option maxHeartbeats 4000000 in
theorem refSame_2 (n d n' d' : Int) (v u : Value) (xs ys : List Int) (w : World) (h1 : Ints w v xs) (h2 : Ints w u ys) (hn : n = n') (hd : d = d') (hl : xs.length ≠ ys.length) :
    Calls Try.prog 19 #[mt n d v, mt n' d' u] w fun ed w' => ed = .returned (.bool false) ∧ Below w.heap.size w w' := by
  obtain ⟨p1, cap1, rfl, hl1, hc1⟩ := h1
  obtain ⟨p2, cap2, rfl, hl2, hc2⟩ := h2
  clear hl1 hc1 hl2 hc2
  subst hn
  have hq : (n != n) = false := by simp
  subst hd
  have hq2 : (d != d) = false := by simp
  have hq3 : ((xs.length : Int) != (ys.length : Int)) = true := by simp; omega
  have hB0 : Below w.heap.size w w := Below.refl _ _
  go_enter Try.func19, Try.ntmps19
  go_wp2
  go_ret
  exact ⟨rfl, ((hB0.alloc hB0.size (.cells #[.int .i64 n, .int .i64 d, .slice p1 xs.length cap1] 24)).alloc (hB0.alloc hB0.size (.cells #[.int .i64 n, .int .i64 d, .slice p1 xs.length cap1] 24)).size (.cells #[.int .i64 n, .int .i64 d, .slice p2 ys.length cap2] 24))⟩

set_option maxRecDepth 100000 in
set_option maxHeartbeats 4000000 in
theorem refSame_3 (n d n' d' : Int) (v u : Value) (xs ys : List Int) (w : World) (h1 : Ints w v xs) (h2 : Ints w u ys) (hn : n = n') (hd : d = d') (hl : xs.length = ys.length) :
    Calls Try.prog 19 #[mt n d v, mt n' d' u] w fun ed w' => ed = .returned (.bool (decide (xs = ys))) ∧ Below w.heap.size w w' := by
  obtain ⟨p1, cap1, rfl, hl1, hc1⟩ := h1
  obtain ⟨p2, cap2, rfl, hl2, hc2⟩ := h2
  subst hn
  have hq : (n != n) = false := by simp
  subst hd
  have hq2 : (d != d) = false := by simp
  have HL := Lib.hid hl
  rw [← hl]
  have hq3 : ((xs.length : Int) != (xs.length : Int)) = false := by simp
  clear hl hl2
  have hB0 : Below w.heap.size w w := Below.refl _ _
  go_enter Try.func19, Try.ntmps19
  go_wp2_with fail
  have hs1 : Below w.heap.size w ((w.alloc (.cells #[.int .i64 n, .int .i64 d, .slice p1 xs.length cap1] 24)).alloc (.cells #[.int .i64 n, .int .i64 d, .slice p2 xs.length cap2] 24)) := by repeat (first | exact Below.refl _ _ | refine Below.alloc ?_ (by simp <;> omega) _)
  have c_m_0 : ((w.alloc (.cells #[.int .i64 n, .int .i64 d, .slice p1 xs.length cap1] 24)).alloc (.cells #[.int .i64 n, .int .i64 d, .slice p2 xs.length cap2] 24)).cell? ⟨w.heap.size, 0, none⟩ = some (.int .i64 n) := by go_simp
  have c_m_1 : ((w.alloc (.cells #[.int .i64 n, .int .i64 d, .slice p1 xs.length cap1] 24)).alloc (.cells #[.int .i64 n, .int .i64 d, .slice p2 xs.length cap2] 24)).cell? ⟨w.heap.size, 1, none⟩ = some (.int .i64 d) := by go_simp
  have c_m_2 : ((w.alloc (.cells #[.int .i64 n, .int .i64 d, .slice p1 xs.length cap1] 24)).alloc (.cells #[.int .i64 n, .int .i64 d, .slice p2 xs.length cap2] 24)).cell? ⟨w.heap.size, 2, none⟩ = some (.slice p1 xs.length cap1) := by go_simp
  have c_k_0 : ((w.alloc (.cells #[.int .i64 n, .int .i64 d, .slice p1 xs.length cap1] 24)).alloc (.cells #[.int .i64 n, .int .i64 d, .slice p2 xs.length cap2] 24)).cell? ⟨w.heap.size + 1, 0, none⟩ = some (.int .i64 n) := by go_simp
  have c_k_1 : ((w.alloc (.cells #[.int .i64 n, .int .i64 d, .slice p1 xs.length cap1] 24)).alloc (.cells #[.int .i64 n, .int .i64 d, .slice p2 xs.length cap2] 24)).cell? ⟨w.heap.size + 1, 1, none⟩ = some (.int .i64 d) := by go_simp
  have c_k_2 : ((w.alloc (.cells #[.int .i64 n, .int .i64 d, .slice p1 xs.length cap1] 24)).alloc (.cells #[.int .i64 n, .int .i64 d, .slice p2 xs.length cap2] 24)).cell? ⟨w.heap.size + 1, 2, none⟩ = some (.slice p2 xs.length cap2) := by go_simp
  have hB1 := below_two hB0 hs1
  clear hB0 hs1
  generalize ((w.alloc (.cells #[.int .i64 n, .int .i64 d, .slice p1 xs.length cap1] 24)).alloc (.cells #[.int .i64 n, .int .i64 d, .slice p2 xs.length cap2] 24)) = w1 at *
  have z_k := World.block_lt_of_cell? _ _ c_k_0
  have z_m := World.block_lt_of_cell? _ _ c_m_0
  have HC1 : Hid (∀ (i : Nat) (x : Int), xs[i]? = some x → ∃ b o, p1 = some ⟨b, o, none⟩ ∧ w1.cell? ⟨b, o + i, none⟩ = some (.int .i64 x)) := Lib.hid fun i x hx => let ⟨b, o, e, c⟩ := hc1 i x hx; ⟨b, o, e, cell_later hB1 c⟩
  have HC2 : Hid (∀ (i : Nat) (x : Int), ys[i]? = some x → ∃ b o, p2 = some ⟨b, o, none⟩ ∧ w1.cell? ⟨b, o + i, none⟩ = some (.int .i64 x)) := Lib.hid fun i x hx => let ⟨b, o, e, c⟩ := hc2 i x hx; ⟨b, o, e, cell_later hB1 c⟩
  clear hc1 hc2
  go_wp2
  go_loopw [5] (fun i wr => EqRel xs ys w1 i wr) (fun i _ => xs.length - (intOf i).toNat)
  case atStart => exact ⟨0, Nat.zero_le _, rfl, rfl, Below.refl _ _⟩
  case round =>
    obtain ⟨k, hk, rfl, he, hB⟩ := hrel
    have HE := Lib.hid he
    replace c_m_2 := cell_later hB c_m_2
    replace c_k_2 := cell_later hB c_k_2
    clear he z_m z_k c_m_0 c_m_1 c_k_0 c_k_1
    by_cases hlt : k < xs.length
    · obtain ⟨x, hx⟩ : ∃ x, xs[k]? = some x := ⟨_, List.getElem?_eq_getElem hlt⟩
      obtain ⟨y, hy⟩ : ∃ y, ys[k]? = some y := ⟨_, List.getElem?_eq_getElem (by have := HL.out; omega)⟩
      obtain ⟨b1, o1, e1, hcx⟩ := HC1.out k x hx
      obtain ⟨b2, o2, e2, hcy⟩ := HC2.out k y hy
      subst e1 e2
      have hcx := cell_later hB hcx
      have hcy := cell_later hB hcy
      have HX := Lib.hid hx
      have HY := Lib.hid hy
      have hlt' : (k : Int) < (xs.length : Int) := by omega
      clear hx hy
      go_wp2_with fail
      go_quiet (fail)
      go_wp2
      · have hxy : x ≠ y := by have : (x != y) = true := by assumption
                               simpa using this
        go_ret
        exact ⟨ret_bool (decide_eq_false (ne_at HX.out HY.out hxy)).symm, below_two hB1 (below_drewN hB _)⟩
      · have hxy : x = y := by have : (x != y) = false := by assumption
                               simpa using this
        go_roundw
        case rel => exact ⟨k + 1, by omega, by go_num, take_eq HX.out HY.out HE.out hxy, below_drewN hB _⟩
        case measure => simp [intOf]; omega
    · obtain rfl : k = xs.length := by omega
      go_wp2
      go_ret
      exact ⟨ret_bool (decide_eq_true (eq_all HL.out HE.out)).symm, below_two hB1 hB⟩

theorem refSame5_any (n d n' d' : Int) (v u : Value) (xs ys : List Int) (w : World) (h1 : Ints w v xs) (h2 : Ints w u ys) :
    Calls Try.prog 19 #[mt n d v, mt n' d' u] w fun ed w' => ed = .returned (.bool (decide (n = n' ∧ d = d' ∧ xs = ys))) ∧ Below w.heap.size w w' := by
  by_cases hn : n = n'
  · by_cases hd : d = d'
    · rw [show decide (n = n' ∧ d = d' ∧ xs = ys) = decide (xs = ys) from decide_eq_decide.2 ⟨fun h => h.2.2, fun h => ⟨hn, hd, h⟩⟩]
      by_cases hl : xs.length = ys.length
      · exact refSame_3 n d n' d' v u xs ys w h1 h2 hn hd hl
      · rw [decide_eq_false (fun e => hl (by rw [e]))]; exact refSame_2 n d n' d' v u xs ys w h1 h2 hn hd hl
    · rw [decide_eq_false (fun h => hd h.2.1)]; exact refSame_1 n d n' d' v u xs ys w h1 h2 hn hd
  · rw [decide_eq_false (fun h => hn h.1)]; exact refSame_0 n d n' d' v u xs ys w h1 h2 hn

set_option maxRecDepth 100000 in
set_option maxHeartbeats 4000000 in
theorem refGroups_own (n d : Int) (v : Value) (gs : List Int) (w : World) (hI : Ints w v gs) (h : gs.length ≠ 0) :
    Calls Try.prog 34 #[mt n d v] w fun ed w' => (∃ u, ed = .returned u ∧ Ints w' u (Met.grp n d gs)) ∧ Below w.heap.size w w' := by
  rw [show Met.grp n d gs = gs by unfold Met.grp; rw [if_neg h]]
  obtain ⟨p, cap, rfl, hl, hc⟩ := hI
  have HI : Hid (Ints w (.slice p gs.length cap) gs) := Lib.hid ⟨p, cap, rfl, hl, hc⟩
  clear hl hc
  have h0 : (0 : Int) < (gs.length : Int) := by omega
  have hB0 : Below w.heap.size w w := Below.refl _ _
  go_enter Try.func34, Try.ntmps34
  go_wp2_with fail
  have hs1 : Below w.heap.size w (w.alloc (.cells #[.int .i64 n, .int .i64 d, .slice p gs.length cap] 24)) := by repeat (first | exact Below.refl _ _ | refine Below.alloc ?_ (by simp <;> omega) _)
  have c_m_0 : (w.alloc (.cells #[.int .i64 n, .int .i64 d, .slice p gs.length cap] 24)).cell? ⟨w.heap.size, 0, none⟩ = some (.int .i64 n) := by go_simp
  have c_m_1 : (w.alloc (.cells #[.int .i64 n, .int .i64 d, .slice p gs.length cap] 24)).cell? ⟨w.heap.size, 1, none⟩ = some (.int .i64 d) := by go_simp
  have c_m_2 : (w.alloc (.cells #[.int .i64 n, .int .i64 d, .slice p gs.length cap] 24)).cell? ⟨w.heap.size, 2, none⟩ = some (.slice p gs.length cap) := by go_simp
  have hB1 := below_two hB0 hs1
  clear hB0 hs1
  generalize (w.alloc (.cells #[.int .i64 n, .int .i64 d, .slice p gs.length cap] 24)) = w1 at *
  have z_m := World.block_lt_of_cell? _ _ c_m_0
  go_wp2
  go_ret
  exact ⟨⟨_, rfl, HI.out.later hB1⟩, hB1⟩

def GroRelR (e : Int) (K : Nat) (w : World) (l i : Value) (wr : World) : Prop := ∃ k : Nat, k ≤ K ∧ i = .int .i64 (e * k) ∧ wr.ownsRow w.heap.size 3 1 l k (List.replicate k (.int .i64 e)) ∧ Below w.heap.size w wr

set_option maxRecDepth 100000 in
set_option maxHeartbeats 4000000 in
theorem refGroups_a (n d : Int) (K : Nat) (v : Value) (w : World) (n1 : 1 ≤ n) (n32 : n ≤ 32) (hK : 1 * (K : Int) = n) (h1 : ¬ 3 < n) (hv : ∃ p cap, v = .slice p 0 cap) :
    Calls Try.prog 34 #[mt n d v] w fun ed w' => (∃ u, ed = .returned u ∧ Ints w' u (List.replicate K 1)) ∧ Below w.heap.size w w' := by
  obtain ⟨p, cap, rfl⟩ := hv
  obtain ⟨i0, hi, hz0, hz1, hz2⟩ := info_parts infoI
  have hB0 : Below w.heap.size w w := Below.refl _ _
  go_enter Try.func34, Try.ntmps34
  go_wp2_with fail
  have hs1 : Below w.heap.size w (w.alloc (.cells #[.int .i64 n, .int .i64 d, .slice p 0 cap] 24)) := by repeat (first | exact Below.refl _ _ | refine Below.alloc ?_ (by simp <;> omega) _)
  have c_m_0 : (w.alloc (.cells #[.int .i64 n, .int .i64 d, .slice p 0 cap] 24)).cell? ⟨w.heap.size, 0, none⟩ = some (.int .i64 n) := by go_simp
  have c_m_1 : (w.alloc (.cells #[.int .i64 n, .int .i64 d, .slice p 0 cap] 24)).cell? ⟨w.heap.size, 1, none⟩ = some (.int .i64 d) := by go_simp
  have c_m_2 : (w.alloc (.cells #[.int .i64 n, .int .i64 d, .slice p 0 cap] 24)).cell? ⟨w.heap.size, 2, none⟩ = some (.slice p 0 cap) := by go_simp
  have hB1 := below_two hB0 hs1
  clear hB0 hs1
  generalize (w.alloc (.cells #[.int .i64 n, .int .i64 d, .slice p 0 cap] 24)) = w1 at *
  have z_m := World.block_lt_of_cell? _ _ c_m_0
  have hown0 := World.ownsRow_nil w1 w1.heap.size 3 1
  go_wp2_with fail
  go_loopw [4, 5] (fun l i wr => GroRelR 1 K w1 l i wr) (fun _ i _ => 100 - (intOf i).toNat)
  case atStart => exact ⟨0, Nat.zero_le _, by simp, hown0, Below.refl _ _⟩
  case round =>
    clear hown0
    obtain ⟨k, hk, rfl, hown, hB⟩ := hrel
    have HOW := Lib.hid hown
    replace c_m_0 := cell_later hB c_m_0
    clear hown c_m_1 c_m_2 z_m
    have z_m := World.block_lt_of_cell? _ _ c_m_0
    have hsz := hB.size
    by_cases hlt : k < K
    · have hlt' : 1 * (k : Int) < n := by omega
      go_wp2_with (first
        | (at_builtin; refine wpList_append_own _ rfl _ _ 22 rfl w1.heap.size 3 i0 (.int .i64 0) 1 8 Try.underlying22 hi hz0 hz1 hz2 rfl (by decide) _ _ _ rfl (HOW.out.alloc _) ⟨wr.heap.size, 0, none⟩ 1 1 [.int .i64 1] rfl rfl (cell_one _ _ _ rfl) (by intro u hu; simp at hu; subst hu; rfl) (by unfold maxLen; omega) (by omega) (by simp; omega) ?_)
        | fail)
      intro v' w5 hown5 hgrow _
      have hb5 : Below w1.heap.size (wr.alloc (.cells #[.int .i64 1] 3)) w5 := (Below.refl _ _).grown hgrow (by simp; omega) (fun k hk => (HOW.out.lt k hk).1)
      have hB5 : Below w1.heap.size w1 w5 := (alloc_below hB).trans hb5
      have HOWN : Hid (w5.ownsRow w1.heap.size 3 1 v' (k + 1) (List.replicate (k + 1) (.int .i64 1))) := Lib.hid (by rw [List.replicate_succ']; exact hown5)
      have HB5 := Lib.hid hB5
      clear hb5 hown5 hgrow hB5 HOW hB c_m_0 z_m
      go_wp2
      go_roundw
      case rel => exact ⟨k + 1, by omega, by (first | go_num | (congr 1; omega)), HOWN.out, HB5.out⟩
      case measure => simp [intOf]; omega
    · obtain rfl : k = K := by omega
      have hlt' : ¬ 1 * (k : Int) < n := by omega
      go_wp2
      go_ret
      exact ⟨⟨_, rfl, (intsK_of (n₀ := 0) (by simp; omega) (by rw [List.length_replicate, List.map_replicate]; exact HOW.out)).ints⟩, below_two hB1 hB⟩

set_option maxRecDepth 100000 in
set_option maxHeartbeats 4000000 in
theorem refGroups_b (n d : Int) (K : Nat) (v : Value) (w : World) (n1 : 1 ≤ n) (n32 : n ≤ 32) (hK : 1 * (K : Int) = n) (h1 : 3 < n) (h2 : (n % 3 == 0) = false) (hv : ∃ p cap, v = .slice p 0 cap) :
    Calls Try.prog 34 #[mt n d v] w fun ed w' => (∃ u, ed = .returned u ∧ Ints w' u (List.replicate K 1)) ∧ Below w.heap.size w w' := by
  obtain ⟨p, cap, rfl⟩ := hv
  obtain ⟨i0, hi, hz0, hz1, hz2⟩ := info_parts infoI
  have hB0 : Below w.heap.size w w := Below.refl _ _
  go_enter Try.func34, Try.ntmps34
  go_wp2_with fail
  have hs1 : Below w.heap.size w (w.alloc (.cells #[.int .i64 n, .int .i64 d, .slice p 0 cap] 24)) := by repeat (first | exact Below.refl _ _ | refine Below.alloc ?_ (by simp <;> omega) _)
  have c_m_0 : (w.alloc (.cells #[.int .i64 n, .int .i64 d, .slice p 0 cap] 24)).cell? ⟨w.heap.size, 0, none⟩ = some (.int .i64 n) := by go_simp
  have c_m_1 : (w.alloc (.cells #[.int .i64 n, .int .i64 d, .slice p 0 cap] 24)).cell? ⟨w.heap.size, 1, none⟩ = some (.int .i64 d) := by go_simp
  have c_m_2 : (w.alloc (.cells #[.int .i64 n, .int .i64 d, .slice p 0 cap] 24)).cell? ⟨w.heap.size, 2, none⟩ = some (.slice p 0 cap) := by go_simp
  have hB1 := below_two hB0 hs1
  clear hB0 hs1
  generalize (w.alloc (.cells #[.int .i64 n, .int .i64 d, .slice p 0 cap] 24)) = w1 at *
  have z_m := World.block_lt_of_cell? _ _ c_m_0
  have hown0 := World.ownsRow_nil w1 w1.heap.size 3 1
  go_wp2_with fail
  go_loopw [4, 5] (fun l i wr => GroRelR 1 K w1 l i wr) (fun _ i _ => 100 - (intOf i).toNat)
  case atStart => exact ⟨0, Nat.zero_le _, by simp, hown0, Below.refl _ _⟩
  case round =>
    clear hown0
    obtain ⟨k, hk, rfl, hown, hB⟩ := hrel
    have HOW := Lib.hid hown
    replace c_m_0 := cell_later hB c_m_0
    clear hown c_m_1 c_m_2 z_m
    have z_m := World.block_lt_of_cell? _ _ c_m_0
    have hsz := hB.size
    by_cases hlt : k < K
    · have hlt' : 1 * (k : Int) < n := by omega
      go_wp2_with (first
        | (at_builtin; refine wpList_append_own _ rfl _ _ 22 rfl w1.heap.size 3 i0 (.int .i64 0) 1 8 Try.underlying22 hi hz0 hz1 hz2 rfl (by decide) _ _ _ rfl (HOW.out.alloc _) ⟨wr.heap.size, 0, none⟩ 1 1 [.int .i64 1] rfl rfl (cell_one _ _ _ rfl) (by intro u hu; simp at hu; subst hu; rfl) (by unfold maxLen; omega) (by omega) (by simp; omega) ?_)
        | fail)
      intro v' w5 hown5 hgrow _
      have hb5 : Below w1.heap.size (wr.alloc (.cells #[.int .i64 1] 3)) w5 := (Below.refl _ _).grown hgrow (by simp; omega) (fun k hk => (HOW.out.lt k hk).1)
      have hB5 : Below w1.heap.size w1 w5 := (alloc_below hB).trans hb5
      have HOWN : Hid (w5.ownsRow w1.heap.size 3 1 v' (k + 1) (List.replicate (k + 1) (.int .i64 1))) := Lib.hid (by rw [List.replicate_succ']; exact hown5)
      have HB5 := Lib.hid hB5
      clear hb5 hown5 hgrow hB5 HOW hB c_m_0 z_m
      go_wp2
      go_roundw
      case rel => exact ⟨k + 1, by omega, by (first | go_num | (congr 1; omega)), HOWN.out, HB5.out⟩
      case measure => simp [intOf]; omega
    · obtain rfl : k = K := by omega
      have hlt' : ¬ 1 * (k : Int) < n := by omega
      go_wp2
      go_ret
      exact ⟨⟨_, rfl, (intsK_of (n₀ := 0) (by simp; omega) (by rw [List.length_replicate, List.map_replicate]; exact HOW.out)).ints⟩, below_two hB1 hB⟩

set_option maxRecDepth 100000 in
set_option maxHeartbeats 4000000 in
theorem refGroups_c (n d : Int) (K : Nat) (v : Value) (w : World) (n1 : 1 ≤ n) (n32 : n ≤ 32) (hK : 1 * (K : Int) = n) (h1 : 3 < n) (h2 : (n % 3 == 0) = true) (h3 : ¬ 8 ≤ d) (hv : ∃ p cap, v = .slice p 0 cap) :
    Calls Try.prog 34 #[mt n d v] w fun ed w' => (∃ u, ed = .returned u ∧ Ints w' u (List.replicate K 1)) ∧ Below w.heap.size w w' := by
  obtain ⟨p, cap, rfl⟩ := hv
  obtain ⟨i0, hi, hz0, hz1, hz2⟩ := info_parts infoI
  have hB0 : Below w.heap.size w w := Below.refl _ _
  go_enter Try.func34, Try.ntmps34
  go_wp2_with fail
  have hs1 : Below w.heap.size w (w.alloc (.cells #[.int .i64 n, .int .i64 d, .slice p 0 cap] 24)) := by repeat (first | exact Below.refl _ _ | refine Below.alloc ?_ (by simp <;> omega) _)
  have c_m_0 : (w.alloc (.cells #[.int .i64 n, .int .i64 d, .slice p 0 cap] 24)).cell? ⟨w.heap.size, 0, none⟩ = some (.int .i64 n) := by go_simp
  have c_m_1 : (w.alloc (.cells #[.int .i64 n, .int .i64 d, .slice p 0 cap] 24)).cell? ⟨w.heap.size, 1, none⟩ = some (.int .i64 d) := by go_simp
  have c_m_2 : (w.alloc (.cells #[.int .i64 n, .int .i64 d, .slice p 0 cap] 24)).cell? ⟨w.heap.size, 2, none⟩ = some (.slice p 0 cap) := by go_simp
  have hB1 := below_two hB0 hs1
  clear hB0 hs1
  generalize (w.alloc (.cells #[.int .i64 n, .int .i64 d, .slice p 0 cap] 24)) = w1 at *
  have z_m := World.block_lt_of_cell? _ _ c_m_0
  have hown0 := World.ownsRow_nil w1 w1.heap.size 3 1
  go_wp2_with fail
  go_loopw [4, 5] (fun l i wr => GroRelR 1 K w1 l i wr) (fun _ i _ => 100 - (intOf i).toNat)
  case atStart => exact ⟨0, Nat.zero_le _, by simp, hown0, Below.refl _ _⟩
  case round =>
    clear hown0
    obtain ⟨k, hk, rfl, hown, hB⟩ := hrel
    have HOW := Lib.hid hown
    replace c_m_0 := cell_later hB c_m_0
    clear hown c_m_1 c_m_2 z_m
    have z_m := World.block_lt_of_cell? _ _ c_m_0
    have hsz := hB.size
    by_cases hlt : k < K
    · have hlt' : 1 * (k : Int) < n := by omega
      go_wp2_with (first
        | (at_builtin; refine wpList_append_own _ rfl _ _ 22 rfl w1.heap.size 3 i0 (.int .i64 0) 1 8 Try.underlying22 hi hz0 hz1 hz2 rfl (by decide) _ _ _ rfl (HOW.out.alloc _) ⟨wr.heap.size, 0, none⟩ 1 1 [.int .i64 1] rfl rfl (cell_one _ _ _ rfl) (by intro u hu; simp at hu; subst hu; rfl) (by unfold maxLen; omega) (by omega) (by simp; omega) ?_)
        | fail)
      intro v' w5 hown5 hgrow _
      have hb5 : Below w1.heap.size (wr.alloc (.cells #[.int .i64 1] 3)) w5 := (Below.refl _ _).grown hgrow (by simp; omega) (fun k hk => (HOW.out.lt k hk).1)
      have hB5 : Below w1.heap.size w1 w5 := (alloc_below hB).trans hb5
      have HOWN : Hid (w5.ownsRow w1.heap.size 3 1 v' (k + 1) (List.replicate (k + 1) (.int .i64 1))) := Lib.hid (by rw [List.replicate_succ']; exact hown5)
      have HB5 := Lib.hid hB5
      clear hb5 hown5 hgrow hB5 HOW hB c_m_0 z_m
      go_wp2
      go_roundw
      case rel => exact ⟨k + 1, by omega, by (first | go_num | (congr 1; omega)), HOWN.out, HB5.out⟩
      case measure => simp [intOf]; omega
    · obtain rfl : k = K := by omega
      have hlt' : ¬ 1 * (k : Int) < n := by omega
      go_wp2
      go_ret
      exact ⟨⟨_, rfl, (intsK_of (n₀ := 0) (by simp; omega) (by rw [List.length_replicate, List.map_replicate]; exact HOW.out)).ints⟩, below_two hB1 hB⟩

set_option maxRecDepth 100000 in
set_option maxHeartbeats 4000000 in
theorem refGroups_d (n d : Int) (K : Nat) (v : Value) (w : World) (n1 : 1 ≤ n) (n32 : n ≤ 32) (hK : 3 * (K : Int) = n) (h1 : 3 < n) (h2 : (n % 3 == 0) = true) (h3 : 8 ≤ d) (hv : ∃ p cap, v = .slice p 0 cap) :
    Calls Try.prog 34 #[mt n d v] w fun ed w' => (∃ u, ed = .returned u ∧ Ints w' u (List.replicate K 3)) ∧ Below w.heap.size w w' := by
  obtain ⟨p, cap, rfl⟩ := hv
  obtain ⟨i0, hi, hz0, hz1, hz2⟩ := info_parts infoI
  have hB0 : Below w.heap.size w w := Below.refl _ _
  go_enter Try.func34, Try.ntmps34
  go_wp2_with fail
  have hs1 : Below w.heap.size w (w.alloc (.cells #[.int .i64 n, .int .i64 d, .slice p 0 cap] 24)) := by repeat (first | exact Below.refl _ _ | refine Below.alloc ?_ (by simp <;> omega) _)
  have c_m_0 : (w.alloc (.cells #[.int .i64 n, .int .i64 d, .slice p 0 cap] 24)).cell? ⟨w.heap.size, 0, none⟩ = some (.int .i64 n) := by go_simp
  have c_m_1 : (w.alloc (.cells #[.int .i64 n, .int .i64 d, .slice p 0 cap] 24)).cell? ⟨w.heap.size, 1, none⟩ = some (.int .i64 d) := by go_simp
  have c_m_2 : (w.alloc (.cells #[.int .i64 n, .int .i64 d, .slice p 0 cap] 24)).cell? ⟨w.heap.size, 2, none⟩ = some (.slice p 0 cap) := by go_simp
  have hB1 := below_two hB0 hs1
  clear hB0 hs1
  generalize (w.alloc (.cells #[.int .i64 n, .int .i64 d, .slice p 0 cap] 24)) = w1 at *
  have z_m := World.block_lt_of_cell? _ _ c_m_0
  have hown0 := World.ownsRow_nil w1 w1.heap.size 3 1
  go_wp2_with fail
  go_loopw [4, 5] (fun l i wr => GroRelR 3 K w1 l i wr) (fun _ i _ => 100 - (intOf i).toNat)
  case atStart => exact ⟨0, Nat.zero_le _, by simp, hown0, Below.refl _ _⟩
  case round =>
    clear hown0
    obtain ⟨k, hk, rfl, hown, hB⟩ := hrel
    have HOW := Lib.hid hown
    replace c_m_0 := cell_later hB c_m_0
    clear hown c_m_1 c_m_2 z_m
    have z_m := World.block_lt_of_cell? _ _ c_m_0
    have hsz := hB.size
    by_cases hlt : k < K
    · have hlt' : 3 * (k : Int) < n := by omega
      go_wp2_with (first
        | (at_builtin; refine wpList_append_own _ rfl _ _ 22 rfl w1.heap.size 3 i0 (.int .i64 0) 1 8 Try.underlying22 hi hz0 hz1 hz2 rfl (by decide) _ _ _ rfl (HOW.out.alloc _) ⟨wr.heap.size, 0, none⟩ 1 1 [.int .i64 3] rfl rfl (cell_one _ _ _ rfl) (by intro u hu; simp at hu; subst hu; rfl) (by unfold maxLen; omega) (by omega) (by simp; omega) ?_)
        | fail)
      intro v' w5 hown5 hgrow _
      have hb5 : Below w1.heap.size (wr.alloc (.cells #[.int .i64 3] 3)) w5 := (Below.refl _ _).grown hgrow (by simp; omega) (fun k hk => (HOW.out.lt k hk).1)
      have hB5 : Below w1.heap.size w1 w5 := (alloc_below hB).trans hb5
      have HOWN : Hid (w5.ownsRow w1.heap.size 3 1 v' (k + 1) (List.replicate (k + 1) (.int .i64 3))) := Lib.hid (by rw [List.replicate_succ']; exact hown5)
      have HB5 := Lib.hid hB5
      clear hb5 hown5 hgrow hB5 HOW hB c_m_0 z_m
      go_wp2
      go_roundw
      case rel => exact ⟨k + 1, by omega, by (first | go_num | (congr 1; omega)), HOWN.out, HB5.out⟩
      case measure => simp [intOf]; omega
    · obtain rfl : k = K := by omega
      have hlt' : ¬ 3 * (k : Int) < n := by omega
      go_wp2
      go_ret
      exact ⟨⟨_, rfl, (intsK_of (n₀ := 0) (by simp; omega) (by rw [List.length_replicate, List.map_replicate]; exact HOW.out)).ints⟩, below_two hB1 hB⟩

theorem refGroups_any (n d : Int) (v : Value) (gs : List Int) (w : World) (hI : Ints w v gs) (hr : Met.right n d gs = true) :
    Calls Try.prog 34 #[mt n d v] w fun ed w' => (∃ u, ed = .returned u ∧ Ints w' u (Met.grp n d gs)) ∧ Below w.heap.size w w' := by
  by_cases h : gs.length = 0
  · have h1 := Met.isRight hr
    have n1 := h1.n1
    have n32 := h1.n32
    have hg : Met.grp n d gs = List.replicate (n / Met.each n d).toNat (Met.each n d) := by unfold Met.grp; rw [if_pos h]
    rw [hg]
    obtain ⟨p, cap, hv, _, _⟩ := hI
    have hv' : ∃ p cap, v = .slice p 0 cap := ⟨p, cap, by rw [hv, h]⟩
    unfold Met.each
    by_cases a1 : 3 < n
    · by_cases a2 : n % 3 = 0
      · by_cases a3 : 8 ≤ d
        · rw [if_pos ⟨a3, a1, a2⟩]; exact refGroups_d n d _ v w n1 n32 (by omega) a1 (beq_iff_eq.2 a2) a3 hv'
        · rw [if_neg (fun x => a3 x.1)]; exact refGroups_c n d _ v w n1 n32 (by omega) a1 (beq_iff_eq.2 a2) a3 hv'
      · rw [if_neg (fun x => a2 x.2.2)]; exact refGroups_b n d _ v w n1 n32 (by omega) a1 (beq_eq_false_iff_ne.2 a2) hv'
    · rw [if_neg (fun x => a1 x.2.1)]; exact refGroups_a n d _ v w n1 n32 (by omega) a1 hv'
  · exact refGroups_own n d v gs w hI h

set_option maxRecDepth 100000 in
set_option maxHeartbeats 4000000 in
theorem refBeats_no (n d : Int) (v : Value) (gs : List Int) (w : World) (hI : Ints w v gs) (hr : Met.right n d gs = false) :
    Calls Try.prog 15 #[mt n d v] w fun ed w' => ed = .returned (.tuple #[.slice none 0 0, .int .i64 50]) ∧ Below w.heap.size w w' := by
  obtain ⟨p, cap, rfl, hl, hc⟩ := hI
  have HI : Hid (Ints w (.slice p gs.length cap) gs) := Lib.hid ⟨p, cap, rfl, hl, hc⟩
  clear hl hc
  have hB0 : Below w.heap.size w w := Below.refl _ _
  go_enter Try.func15, Try.ntmps15
  go_wp2_with fail
  refine (refRight5_is (HI.out.later (hB0.alloc hB0.size (.cells #[.int .i64 n, .int .i64 d, .slice p gs.length cap] 24))) hr).mono ?_
  rintro e w1 ⟨rfl, hb1⟩
  have hs1 : Below w.heap.size w w1 := Below.trans (by repeat (first | exact Below.refl _ _ | refine Below.alloc ?_ (by simp <;> omega) _)) (hb1.mono (by simp <;> omega))
  have c_m_0 : w1.cell? ⟨w.heap.size, 0, none⟩ = some (.int .i64 n) := (hb1.cell (by simp <;> omega)).trans (by go_simp)
  have c_m_1 : w1.cell? ⟨w.heap.size, 1, none⟩ = some (.int .i64 d) := (hb1.cell (by simp <;> omega)).trans (by go_simp)
  have c_m_2 : w1.cell? ⟨w.heap.size, 2, none⟩ = some (.slice p gs.length cap) := (hb1.cell (by simp <;> omega)).trans (by go_simp)
  have z_m := World.block_lt_of_cell? _ _ c_m_0
  have hB1 := below_two hB0 hs1
  clear hB0 hs1 hb1
  go_wp2
  go_ret2
  exact ⟨rfl, hB1⟩

def BtRel (d : Int) (G : List Int) (w : World) (l a i : Value) (wr : World) : Prop := ∃ k : Nat, k ≤ G.length ∧ i = .int .i64 (k : Int) ∧ a = .int .i64 (Met.ah G k) ∧ wr.ownsRow w.heap.size 26 2 l k (rowP ((Met.bts d G).take k)) ∧ Below w.heap.size w wr

set_option maxRecDepth 100000 in
set_option maxHeartbeats 4000000 in
theorem refBeats_yes (n d : Int) (v : Value) (gs : List Int) (w : World) (hI : Ints w v gs) (hr : Met.right n d gs = true) :
    Calls Try.prog 15 #[mt n d v] w fun ed w' => (∃ u, ed = .returned (.tuple #[u, .int .i64 0]) ∧ Prs w' u (Met.bt n d gs)) ∧ Below w.heap.size w w' := by
  obtain ⟨p, cap, rfl, hl, hc⟩ := hI
  have HI : Hid (Ints w (.slice p gs.length cap) gs) := Lib.hid ⟨p, cap, rfl, hl, hc⟩
  clear hl hc
  have hR := Met.isRight hr
  have n32 := hR.n32
  have d1 := hR.d1
  have d64 := hR.d64
  have HG : Hid (∀ k x, (Met.grp n d gs)[k]? = some x → 1 ≤ x ∧ Met.ah (Met.grp n d gs) k + x ≤ n) := Lib.hid fun k x h => hR.g_bounds h
  have HA : Hid (∀ k, k < (Met.grp n d gs).length → 0 ≤ Met.ah (Met.grp n d gs) k ∧ Met.ah (Met.grp n d gs) k < n) := Lib.hid fun k h => hR.ah_bounds h
  have hlen := hR.len
  have HGR := Lib.hid (fun W (h : Ints W (.slice p gs.length cap) gs) => refGroups_any n d _ gs W h hr)
  unfold Met.bt
  generalize Met.grp n d gs = G at *
  obtain ⟨hlen1, hlen2⟩ := hlen
  obtain ⟨i0, hi, hz0, hz1, hz2⟩ := info_parts infoR
  clear hR
  have hB0 : Below w.heap.size w w := Below.refl _ _
  go_enter Try.func15, Try.ntmps15
  go_wp2_with fail
  refine (refRight5_is (HI.out.later (hB0.alloc hB0.size (.cells #[.int .i64 n, .int .i64 d, .slice p gs.length cap] 24))) hr).mono ?_
  rintro e w1 ⟨rfl, hb1⟩
  have hs1 : Below w.heap.size w w1 := Below.trans (by repeat (first | exact Below.refl _ _ | refine Below.alloc ?_ (by simp <;> omega) _)) (hb1.mono (by simp <;> omega))
  have c_m_0 : w1.cell? ⟨w.heap.size, 0, none⟩ = some (.int .i64 n) := (hb1.cell (by simp <;> omega)).trans (by go_simp)
  have c_m_1 : w1.cell? ⟨w.heap.size, 1, none⟩ = some (.int .i64 d) := (hb1.cell (by simp <;> omega)).trans (by go_simp)
  have c_m_2 : w1.cell? ⟨w.heap.size, 2, none⟩ = some (.slice p gs.length cap) := (hb1.cell (by simp <;> omega)).trans (by go_simp)
  have z_m := World.block_lt_of_cell? _ _ c_m_0
  have hB1 := below_two hB0 hs1
  clear hB0 hs1 hb1
  go_wp2_with fail
  refine (HGR.out _ (HI.out.later hB1)).mono ?_
  rintro e w2 ⟨⟨u, rfl, hI2⟩, hb2⟩
  have hs2 := hb2
  replace c_m_0 := cell_later hs2 c_m_0
  replace c_m_1 := cell_later hs2 c_m_1
  replace c_m_2 := cell_later hs2 c_m_2
  clear z_m
  have z_m := World.block_lt_of_cell? _ _ c_m_0
  have hB2 := below_two hB1 hs2
  clear hB1 hs2
  clear HGR HI hr
  obtain ⟨p2, cap2, rfl, hl2, hc2⟩ := hI2
  have HC2 := Lib.hid hc2
  clear hl2 hc2
  have hown0 := World.ownsRow_nil w2 w2.heap.size 26 2
  go_wp2_with fail
  go_loopw [5, 7, 8] (fun l a i wr => BtRel d G w2 l a i wr) (fun _ _ i _ => G.length - (intOf i).toNat)
  case atStart => exact ⟨0, Nat.zero_le _, rfl, rfl, hown0, Below.refl _ _⟩
  case round =>
    clear hown0
    obtain ⟨k, hk, rfl, rfl, hown, hB⟩ := hrel
    replace c_m_1 := cell_later hB c_m_1
    clear c_m_0 c_m_2 z_m
    obtain ⟨A, HAe⟩ : ∃ A, Hid (Met.ah G k = A) := ⟨_, Lib.hid rfl⟩
    rw [HAe.out]
    by_cases hlt : k < G.length
    · obtain ⟨x, hx⟩ : ∃ x, G[k]? = some x := ⟨_, List.getElem?_eq_getElem hlt⟩
      obtain ⟨hA0, hA1⟩ := HA.out k hlt
      obtain ⟨hx1, hx2⟩ := HG.out k x hx
      rw [HAe.out] at hA0 hA1 hx2
      obtain ⟨b, o, rfl, hcell2⟩ := HC2.out k x hx
      have HC3 := Lib.hid hcell2
      have hcell := cell_later hB hcell2
      clear hcell2
      have HX := Lib.hid hx
      have hlt' : (k : Int) < (G.length : Int) := by omega
      clear hx HC2
      go_wp2_with fail
      refine (refOfP_any (n := A) (d := d) (by omega) (by omega) (by omega) (by omega) wr).mono ?_
      rintro e w4 ⟨rfl, hb4⟩
      obtain ⟨X, HXX⟩ : ∃ X, Hid (Met.of A d = X) := ⟨_, Lib.hid rfl⟩
      rw [HXX.out]
      obtain ⟨x0, y0⟩ := X
      dsimp only
      have hown4 := own_later hown hb4
      have HB4 := Lib.hid (hB.trans (hb4.mono hB.size))
      have hsz := HB4.out.size
      replace hcell := cell_later hb4 hcell
      replace c_m_1 := cell_later hb4 c_m_1
      have HOW := Lib.hid (hown4.alloc (.cells #[.int .i64 x0, .int .i64 y0] 26))
      have HOW4 := Lib.hid hown4
      have zc := World.block_lt_of_cell? _ _ hcell
      have zm := World.block_lt_of_cell? _ _ c_m_1
      clear hown hown4 hb4 hB
      go_wp2_with (first
        | (at_builtin; refine wpList_append_own _ rfl _ _ 33 rfl w2.heap.size 26 i0 (.agg #[.int .i64 0, .int .i64 0]) 2 16 Try.underlying33 hi hz0 hz1 hz2 rfl (by decide) _ _ _ rfl (HOW.out.alloc _) ⟨w4.heap.size + 1, 0, none⟩ 1 1 [.int .i64 x0, .int .i64 y0] rfl rfl (cells2_new _ _ _ _ (by simp)) (one_cell2 _ _) (by unfold maxLen; omega) (by omega) (by simp; omega) ?_)
        | fail)
      intro v' w5 hown5 hgrow _
      have hb5 : Below w2.heap.size ((w4.alloc (.cells #[.int .i64 x0, .int .i64 y0] 26)).alloc (.cells #[.int .i64 x0, .int .i64 y0] 26)) w5 := (Below.refl _ _).grown hgrow (by simp; omega) (fun k hk => (HOW.out.lt k hk).1)
      have hB5 : Below w2.heap.size w2 w5 := (alloc_below (alloc_below HB4.out)).trans hb5
      have HOWN : Hid (w5.ownsRow w2.heap.size 26 2 v' (k + 1) (rowP ((Met.bts d G).take (k + 1)))) := Lib.hid (by rw [bts_take hlt, HAe.out, HXX.out, rowP_append]; exact hown5)
      replace hcell := cell_later hB5 HC3.out
      have HB5 := Lib.hid hB5
      clear hb5 hown5 hgrow hB5 HOW HOW4 HB4 HC3 c_m_1 zm zc
      go_wp2
      go_roundw
      case rel => exact ⟨k + 1, by omega, by go_num, by rw [Met.ah_succ HX.out, HAe.out], HOWN.out, HB5.out⟩
      case measure => simp [intOf]; omega
    · obtain rfl : k = G.length := by omega
      have HW := Lib.hid hown
      clear hown
      go_wp2
      go_ret2
      exact ⟨⟨_, rfl, prs_of (by rw [Met.bts_length]; omega) (by rw [Met.bts_length]; rw [show (Met.bts d G).take G.length = Met.bts d G by rw [← Met.bts_length d G, List.take_length]] at HW; exact HW.out)⟩, below_two hB2 hB⟩

theorem refBeats_right {n d : Int} {v : Value} {gs : List Int} {w : World} (hI : Ints w v gs) (hr : Met.right n d gs = true) {L : List Met.Pr} (h : Met.bt n d gs = L) :
    Calls Try.prog 15 #[mt n d v] w fun ed w' => (∃ u, ed = .returned (.tuple #[u, .int .i64 0]) ∧ Prs w' u (L)) ∧ Below w.heap.size w w' := by rw [← h]; exact refBeats_yes n d v gs w hI hr
theorem refBeats_wrong {n d : Int} {v : Value} {gs : List Int} {w : World} (hI : Ints w v gs) (hr : Met.right n d gs = false) :
    Calls Try.prog 15 #[mt n d v] w fun ed w' => (∃ u, ed = .returned (.tuple #[u, .int .i64 50]) ∧ Prs w' u ([])) ∧ Below w.heap.size w w' := (refBeats_no n d v gs w hI hr).mono fun _ _ ⟨he, hb⟩ => ⟨⟨_, he, Prs.none _⟩, hb⟩
end Go.Proofs.Ytlodhfdikglgoaa
