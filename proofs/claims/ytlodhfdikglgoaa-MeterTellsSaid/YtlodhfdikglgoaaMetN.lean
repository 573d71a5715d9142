/-
  The contracts of the reference's Right, Length and within.
-/
import Derived.Test.YtlodhfdikglgoaaMetLaw
import Derived.LoopN
namespace Go.Proofs.Ytlodhfdikglgoaa
open Go.RowKit

def RfRel (gs : List Int) (a i : Value) : Prop := ∃ (k : Nat) (A : Int), k ≤ gs.length ∧ i = .int .i64 (k : Int) ∧ a = .int .i64 A ∧ Hid (Met.ah gs k = A) ∧ Hid (∀ g ∈ gs.take k, 1 ≤ g ∧ g ≤ 32) ∧ 0 ≤ A ∧ A ≤ 32 * (k : Int)

set_option maxRecDepth 100000 in
set_option maxHeartbeats 4000000 in
theorem refR_1 (n d : Int) (v : Value) (gs : List Int) (w : World) (hI : Ints w v gs) (h : n < 1 ∨ 32 < n) :
    Calls Try.prog 17 #[mt n d v] w fun ed w' => ed = .returned (.bool false) ∧ Below w.heap.size w w' := by
  obtain ⟨p, cap, rfl, hl, hc⟩ := hI
  have HI : Hid (Ints w (.slice p gs.length cap) gs) := Lib.hid ⟨p, cap, rfl, hl, hc⟩
  clear hl hc
  have hB0 : Below w.heap.size w w := Below.refl _ _
  go_enter Try.func17, Try.ntmps17
  rcases h with h | h
  · go_wp2
    go_ret
    exact ⟨rfl, (hB0.alloc hB0.size (.cells #[.int .i64 n, .int .i64 d, .slice p gs.length cap] 24))⟩
  · have h2 : ¬ n < 1 := by omega
    go_wp2
    go_ret
    exact ⟨rfl, (hB0.alloc hB0.size (.cells #[.int .i64 n, .int .i64 d, .slice p gs.length cap] 24))⟩

set_option maxRecDepth 100000 in
set_option maxHeartbeats 4000000 in
theorem refR_2 (n d : Int) (v : Value) (gs : List Int) (w : World) (hI : Ints w v gs) (n1 : 1 ≤ n) (n32 : n ≤ 32) (h : Met.okD d = false) :
    Calls Try.prog 17 #[mt n d v] w fun ed w' => ed = .returned (.bool false) ∧ Below w.heap.size w w' := by
  obtain ⟨p, cap, rfl, hl, hc⟩ := hI
  have HI : Hid (Ints w (.slice p gs.length cap) gs) := Lib.hid ⟨p, cap, rfl, hl, hc⟩
  clear hl hc
  have hn : ¬ _ := fun x => Bool.false_ne_true (h.symm.trans ((Met.okD_iff d).2 x))
  have h1 : (d == 1) = false := beq_eq_false_iff_ne.2 (fun e => hn (by omega))
  have h2 : (d == 2) = false := beq_eq_false_iff_ne.2 (fun e => hn (by omega))
  have h3 : (d == 4) = false := beq_eq_false_iff_ne.2 (fun e => hn (by omega))
  have h4 : (d == 8) = false := beq_eq_false_iff_ne.2 (fun e => hn (by omega))
  have h5 : (d == 16) = false := beq_eq_false_iff_ne.2 (fun e => hn (by omega))
  have h6 : (d == 32) = false := beq_eq_false_iff_ne.2 (fun e => hn (by omega))
  have h7 : (d == 64) = false := beq_eq_false_iff_ne.2 (fun e => hn (by omega))
  clear h hn
  have hB0 : Below w.heap.size w w := Below.refl _ _
  go_enter Try.func17, Try.ntmps17
  go_wp2_with fail
  have hs1 : Below w.heap.size w (w.alloc (.cells #[.int .i64 n, .int .i64 d, .slice p gs.length cap] 24)) := by repeat (first | exact Below.refl _ _ | refine Below.alloc ?_ (by simp <;> omega) _)
  have c_m_0 : (w.alloc (.cells #[.int .i64 n, .int .i64 d, .slice p gs.length cap] 24)).cell? ⟨w.heap.size, 0, none⟩ = some (.int .i64 n) := by go_simp
  have c_m_1 : (w.alloc (.cells #[.int .i64 n, .int .i64 d, .slice p gs.length cap] 24)).cell? ⟨w.heap.size, 1, none⟩ = some (.int .i64 d) := by go_simp
  have c_m_2 : (w.alloc (.cells #[.int .i64 n, .int .i64 d, .slice p gs.length cap] 24)).cell? ⟨w.heap.size, 2, none⟩ = some (.slice p gs.length cap) := by go_simp
  have hB1 := below_two hB0 hs1
  clear hB0 hs1
  generalize (w.alloc (.cells #[.int .i64 n, .int .i64 d, .slice p gs.length cap] 24)) = w1 at *
  have z_m := World.block_lt_of_cell? _ _ c_m_0
  go_wp2
  refine wp_loop_rounds 8 ?_
  iterate 8 (rw [rounds_succ]; go_wp2)
  go_ret
  exact ⟨rfl, hB1⟩

set_option maxRecDepth 100000 in
set_option maxHeartbeats 4000000 in
theorem refR_d1 (n : Int) (v : Value) (gs : List Int) (w : World) (hI : Ints w v gs) (n1 : 1 ≤ n) (n32 : n ≤ 32) :
    Calls Try.prog 17 #[mt n 1 v] w fun ed w' => ed = .returned (.bool (Met.okG n gs)) ∧ Below w.heap.size w w' := by
  obtain ⟨p, cap, rfl, hl, hc⟩ := hI
  have HI : Hid (Ints w (.slice p gs.length cap) gs) := Lib.hid ⟨p, cap, rfl, hl, hc⟩
  have hB0 : Below w.heap.size w w := Below.refl _ _
  go_enter Try.func17, Try.ntmps17
  go_wp2_with fail
  have hs1 : Below w.heap.size w (w.alloc (.cells #[.int .i64 n, .int .i64 1, .slice p gs.length cap] 24)) := by repeat (first | exact Below.refl _ _ | refine Below.alloc ?_ (by simp <;> omega) _)
  have c_m_0 : (w.alloc (.cells #[.int .i64 n, .int .i64 1, .slice p gs.length cap] 24)).cell? ⟨w.heap.size, 0, none⟩ = some (.int .i64 n) := by go_simp
  have c_m_1 : (w.alloc (.cells #[.int .i64 n, .int .i64 1, .slice p gs.length cap] 24)).cell? ⟨w.heap.size, 1, none⟩ = some (.int .i64 1) := by go_simp
  have c_m_2 : (w.alloc (.cells #[.int .i64 n, .int .i64 1, .slice p gs.length cap] 24)).cell? ⟨w.heap.size, 2, none⟩ = some (.slice p gs.length cap) := by go_simp
  have hB1 := below_two hB0 hs1
  clear hB0 hs1
  generalize (w.alloc (.cells #[.int .i64 n, .int .i64 1, .slice p gs.length cap] 24)) = w1 at *
  have z_m := World.block_lt_of_cell? _ _ c_m_0
  have HC : Hid (∀ (i : Nat) (x : Int), gs[i]? = some x → ∃ b o, p = some ⟨b, o, none⟩ ∧ w1.cell? ⟨b, o + i, none⟩ = some (.int .i64 x)) := Lib.hid fun i x hx => let ⟨b, o, e, c⟩ := hc i x hx; ⟨b, o, e, cell_later hB1 c⟩
  clear hc HI
  go_wp2
  refine wp_loop_rounds 8 ?_
  iterate 8 (rw [rounds_succ]; go_wp2)
  go_loop [5, 6] (RfRel gs) (fun _ i => gs.length - (intOf i).toNat)
  case atStart => exact ⟨0, 0, Nat.zero_le _, rfl, rfl, Lib.hid (Met.ah_zero _), Lib.hid (by simp), by omega, by omega⟩
  case round =>
    obtain ⟨k, A, hk, rfl, rfl, HA, HP, hA0, hA1⟩ := hrel
    by_cases hlt : k < gs.length
    · have hlt' : (k : Int) < (gs.length : Int) := by omega
      obtain ⟨x, hx⟩ : ∃ x, gs[k]? = some x := ⟨_, List.getElem?_eq_getElem hlt⟩
      obtain ⟨b, o, rfl, hcell⟩ := HC.out k x hx
      have HX := Lib.hid hx
      clear hx
      by_cases hok : 1 ≤ x ∧ x ≤ 32
      · obtain ⟨hx1, hx2⟩ := hok
        have g1 : ¬ x < 1 := by omega
        have g2 : ¬ 32 < x := by omega
        have HP2 : Hid (∀ g ∈ gs.take (k + 1), 1 ≤ g ∧ g ≤ 32) := Lib.hid (by rw [Met.take_succ_at HX.out]; intro g hg; rcases List.mem_append.1 hg with h | h; exact HP.out g h; simp at h; omega)
        go_wp2
        refine ⟨⟨k + 1, A + x, by omega, by go_num, rfl, Lib.hid (by rw [Met.ah_succ HX.out, HA.out]), HP2, by omega, by omega⟩, by simp [intOf]; omega⟩
      · have HE : Hid (Met.okG n gs = false) := Lib.hid (Met.okG_big (List.mem_of_getElem? HX.out) n32 (by omega))
        by_cases h1 : x < 1
        · go_wp2
          go_ret
          exact ⟨ret_bool HE.out.symm, hB1⟩
        · have h2 : 32 < x := by omega
          go_wp2
          go_ret
          exact ⟨ret_bool HE.out.symm, hB1⟩
    · obtain rfl : k = gs.length := by omega
      rw [List.take_length] at HP
      have HE : Hid (Met.okG n gs = ((gs.length : Int) == 0 || A == n)) := Lib.hid (by rw [Met.okG_all (fun g hg => (HP.out g hg).1), ← HA.out, Met.ah_all])
      clear HC
      by_cases hz : gs.length = 0
      · have hz1 : ((gs.length : Int) == 0) = true := beq_iff_eq.2 (by omega)
        have HE1 : Hid (Met.okG n gs = true) := Lib.hid (by rw [HE.out, hz1]; rfl)
        go_wp2
        go_ret
        exact ⟨ret_bool HE1.out.symm, hB1⟩
      · have hz1 : ((gs.length : Int) == 0) = false := beq_eq_false_iff_ne.2 (by omega)
        have HE1 : Hid (Met.okG n gs = (A == n)) := Lib.hid (by rw [HE.out, hz1]; rfl)
        go_wp2
        go_ret
        exact ⟨ret_bool HE1.out.symm, hB1⟩

set_option maxRecDepth 100000 in
set_option maxHeartbeats 4000000 in
theorem refR_d2 (n : Int) (v : Value) (gs : List Int) (w : World) (hI : Ints w v gs) (n1 : 1 ≤ n) (n32 : n ≤ 32) :
    Calls Try.prog 17 #[mt n 2 v] w fun ed w' => ed = .returned (.bool (Met.okG n gs)) ∧ Below w.heap.size w w' := by
  obtain ⟨p, cap, rfl, hl, hc⟩ := hI
  have HI : Hid (Ints w (.slice p gs.length cap) gs) := Lib.hid ⟨p, cap, rfl, hl, hc⟩
  have hB0 : Below w.heap.size w w := Below.refl _ _
  go_enter Try.func17, Try.ntmps17
  go_wp2_with fail
  have hs1 : Below w.heap.size w (w.alloc (.cells #[.int .i64 n, .int .i64 2, .slice p gs.length cap] 24)) := by repeat (first | exact Below.refl _ _ | refine Below.alloc ?_ (by simp <;> omega) _)
  have c_m_0 : (w.alloc (.cells #[.int .i64 n, .int .i64 2, .slice p gs.length cap] 24)).cell? ⟨w.heap.size, 0, none⟩ = some (.int .i64 n) := by go_simp
  have c_m_1 : (w.alloc (.cells #[.int .i64 n, .int .i64 2, .slice p gs.length cap] 24)).cell? ⟨w.heap.size, 1, none⟩ = some (.int .i64 2) := by go_simp
  have c_m_2 : (w.alloc (.cells #[.int .i64 n, .int .i64 2, .slice p gs.length cap] 24)).cell? ⟨w.heap.size, 2, none⟩ = some (.slice p gs.length cap) := by go_simp
  have hB1 := below_two hB0 hs1
  clear hB0 hs1
  generalize (w.alloc (.cells #[.int .i64 n, .int .i64 2, .slice p gs.length cap] 24)) = w1 at *
  have z_m := World.block_lt_of_cell? _ _ c_m_0
  have HC : Hid (∀ (i : Nat) (x : Int), gs[i]? = some x → ∃ b o, p = some ⟨b, o, none⟩ ∧ w1.cell? ⟨b, o + i, none⟩ = some (.int .i64 x)) := Lib.hid fun i x hx => let ⟨b, o, e, c⟩ := hc i x hx; ⟨b, o, e, cell_later hB1 c⟩
  clear hc HI
  go_wp2
  refine wp_loop_rounds 8 ?_
  iterate 8 (rw [rounds_succ]; go_wp2)
  go_loop [5, 6] (RfRel gs) (fun _ i => gs.length - (intOf i).toNat)
  case atStart => exact ⟨0, 0, Nat.zero_le _, rfl, rfl, Lib.hid (Met.ah_zero _), Lib.hid (by simp), by omega, by omega⟩
  case round =>
    obtain ⟨k, A, hk, rfl, rfl, HA, HP, hA0, hA1⟩ := hrel
    by_cases hlt : k < gs.length
    · have hlt' : (k : Int) < (gs.length : Int) := by omega
      obtain ⟨x, hx⟩ : ∃ x, gs[k]? = some x := ⟨_, List.getElem?_eq_getElem hlt⟩
      obtain ⟨b, o, rfl, hcell⟩ := HC.out k x hx
      have HX := Lib.hid hx
      clear hx
      by_cases hok : 1 ≤ x ∧ x ≤ 32
      · obtain ⟨hx1, hx2⟩ := hok
        have g1 : ¬ x < 1 := by omega
        have g2 : ¬ 32 < x := by omega
        have HP2 : Hid (∀ g ∈ gs.take (k + 1), 1 ≤ g ∧ g ≤ 32) := Lib.hid (by rw [Met.take_succ_at HX.out]; intro g hg; rcases List.mem_append.1 hg with h | h; exact HP.out g h; simp at h; omega)
        go_wp2
        refine ⟨⟨k + 1, A + x, by omega, by go_num, rfl, Lib.hid (by rw [Met.ah_succ HX.out, HA.out]), HP2, by omega, by omega⟩, by simp [intOf]; omega⟩
      · have HE : Hid (Met.okG n gs = false) := Lib.hid (Met.okG_big (List.mem_of_getElem? HX.out) n32 (by omega))
        by_cases h1 : x < 1
        · go_wp2
          go_ret
          exact ⟨ret_bool HE.out.symm, hB1⟩
        · have h2 : 32 < x := by omega
          go_wp2
          go_ret
          exact ⟨ret_bool HE.out.symm, hB1⟩
    · obtain rfl : k = gs.length := by omega
      rw [List.take_length] at HP
      have HE : Hid (Met.okG n gs = ((gs.length : Int) == 0 || A == n)) := Lib.hid (by rw [Met.okG_all (fun g hg => (HP.out g hg).1), ← HA.out, Met.ah_all])
      clear HC
      by_cases hz : gs.length = 0
      · have hz1 : ((gs.length : Int) == 0) = true := beq_iff_eq.2 (by omega)
        have HE1 : Hid (Met.okG n gs = true) := Lib.hid (by rw [HE.out, hz1]; rfl)
        go_wp2
        go_ret
        exact ⟨ret_bool HE1.out.symm, hB1⟩
      · have hz1 : ((gs.length : Int) == 0) = false := beq_eq_false_iff_ne.2 (by omega)
        have HE1 : Hid (Met.okG n gs = (A == n)) := Lib.hid (by rw [HE.out, hz1]; rfl)
        go_wp2
        go_ret
        exact ⟨ret_bool HE1.out.symm, hB1⟩

set_option maxRecDepth 100000 in
set_option maxHeartbeats 4000000 in
theorem refR_d4 (n : Int) (v : Value) (gs : List Int) (w : World) (hI : Ints w v gs) (n1 : 1 ≤ n) (n32 : n ≤ 32) :
    Calls Try.prog 17 #[mt n 4 v] w fun ed w' => ed = .returned (.bool (Met.okG n gs)) ∧ Below w.heap.size w w' := by
  obtain ⟨p, cap, rfl, hl, hc⟩ := hI
  have HI : Hid (Ints w (.slice p gs.length cap) gs) := Lib.hid ⟨p, cap, rfl, hl, hc⟩
  have hB0 : Below w.heap.size w w := Below.refl _ _
  go_enter Try.func17, Try.ntmps17
  go_wp2_with fail
  have hs1 : Below w.heap.size w (w.alloc (.cells #[.int .i64 n, .int .i64 4, .slice p gs.length cap] 24)) := by repeat (first | exact Below.refl _ _ | refine Below.alloc ?_ (by simp <;> omega) _)
  have c_m_0 : (w.alloc (.cells #[.int .i64 n, .int .i64 4, .slice p gs.length cap] 24)).cell? ⟨w.heap.size, 0, none⟩ = some (.int .i64 n) := by go_simp
  have c_m_1 : (w.alloc (.cells #[.int .i64 n, .int .i64 4, .slice p gs.length cap] 24)).cell? ⟨w.heap.size, 1, none⟩ = some (.int .i64 4) := by go_simp
  have c_m_2 : (w.alloc (.cells #[.int .i64 n, .int .i64 4, .slice p gs.length cap] 24)).cell? ⟨w.heap.size, 2, none⟩ = some (.slice p gs.length cap) := by go_simp
  have hB1 := below_two hB0 hs1
  clear hB0 hs1
  generalize (w.alloc (.cells #[.int .i64 n, .int .i64 4, .slice p gs.length cap] 24)) = w1 at *
  have z_m := World.block_lt_of_cell? _ _ c_m_0
  have HC : Hid (∀ (i : Nat) (x : Int), gs[i]? = some x → ∃ b o, p = some ⟨b, o, none⟩ ∧ w1.cell? ⟨b, o + i, none⟩ = some (.int .i64 x)) := Lib.hid fun i x hx => let ⟨b, o, e, c⟩ := hc i x hx; ⟨b, o, e, cell_later hB1 c⟩
  clear hc HI
  go_wp2
  refine wp_loop_rounds 8 ?_
  iterate 8 (rw [rounds_succ]; go_wp2)
  go_loop [5, 6] (RfRel gs) (fun _ i => gs.length - (intOf i).toNat)
  case atStart => exact ⟨0, 0, Nat.zero_le _, rfl, rfl, Lib.hid (Met.ah_zero _), Lib.hid (by simp), by omega, by omega⟩
  case round =>
    obtain ⟨k, A, hk, rfl, rfl, HA, HP, hA0, hA1⟩ := hrel
    by_cases hlt : k < gs.length
    · have hlt' : (k : Int) < (gs.length : Int) := by omega
      obtain ⟨x, hx⟩ : ∃ x, gs[k]? = some x := ⟨_, List.getElem?_eq_getElem hlt⟩
      obtain ⟨b, o, rfl, hcell⟩ := HC.out k x hx
      have HX := Lib.hid hx
      clear hx
      by_cases hok : 1 ≤ x ∧ x ≤ 32
      · obtain ⟨hx1, hx2⟩ := hok
        have g1 : ¬ x < 1 := by omega
        have g2 : ¬ 32 < x := by omega
        have HP2 : Hid (∀ g ∈ gs.take (k + 1), 1 ≤ g ∧ g ≤ 32) := Lib.hid (by rw [Met.take_succ_at HX.out]; intro g hg; rcases List.mem_append.1 hg with h | h; exact HP.out g h; simp at h; omega)
        go_wp2
        refine ⟨⟨k + 1, A + x, by omega, by go_num, rfl, Lib.hid (by rw [Met.ah_succ HX.out, HA.out]), HP2, by omega, by omega⟩, by simp [intOf]; omega⟩
      · have HE : Hid (Met.okG n gs = false) := Lib.hid (Met.okG_big (List.mem_of_getElem? HX.out) n32 (by omega))
        by_cases h1 : x < 1
        · go_wp2
          go_ret
          exact ⟨ret_bool HE.out.symm, hB1⟩
        · have h2 : 32 < x := by omega
          go_wp2
          go_ret
          exact ⟨ret_bool HE.out.symm, hB1⟩
    · obtain rfl : k = gs.length := by omega
      rw [List.take_length] at HP
      have HE : Hid (Met.okG n gs = ((gs.length : Int) == 0 || A == n)) := Lib.hid (by rw [Met.okG_all (fun g hg => (HP.out g hg).1), ← HA.out, Met.ah_all])
      clear HC
      by_cases hz : gs.length = 0
      · have hz1 : ((gs.length : Int) == 0) = true := beq_iff_eq.2 (by omega)
        have HE1 : Hid (Met.okG n gs = true) := Lib.hid (by rw [HE.out, hz1]; rfl)
        go_wp2
        go_ret
        exact ⟨ret_bool HE1.out.symm, hB1⟩
      · have hz1 : ((gs.length : Int) == 0) = false := beq_eq_false_iff_ne.2 (by omega)
        have HE1 : Hid (Met.okG n gs = (A == n)) := Lib.hid (by rw [HE.out, hz1]; rfl)
        go_wp2
        go_ret
        exact ⟨ret_bool HE1.out.symm, hB1⟩

set_option maxRecDepth 100000 in
set_option maxHeartbeats 4000000 in
theorem refR_d8 (n : Int) (v : Value) (gs : List Int) (w : World) (hI : Ints w v gs) (n1 : 1 ≤ n) (n32 : n ≤ 32) :
    Calls Try.prog 17 #[mt n 8 v] w fun ed w' => ed = .returned (.bool (Met.okG n gs)) ∧ Below w.heap.size w w' := by
  obtain ⟨p, cap, rfl, hl, hc⟩ := hI
  have HI : Hid (Ints w (.slice p gs.length cap) gs) := Lib.hid ⟨p, cap, rfl, hl, hc⟩
  have hB0 : Below w.heap.size w w := Below.refl _ _
  go_enter Try.func17, Try.ntmps17
  go_wp2_with fail
  have hs1 : Below w.heap.size w (w.alloc (.cells #[.int .i64 n, .int .i64 8, .slice p gs.length cap] 24)) := by repeat (first | exact Below.refl _ _ | refine Below.alloc ?_ (by simp <;> omega) _)
  have c_m_0 : (w.alloc (.cells #[.int .i64 n, .int .i64 8, .slice p gs.length cap] 24)).cell? ⟨w.heap.size, 0, none⟩ = some (.int .i64 n) := by go_simp
  have c_m_1 : (w.alloc (.cells #[.int .i64 n, .int .i64 8, .slice p gs.length cap] 24)).cell? ⟨w.heap.size, 1, none⟩ = some (.int .i64 8) := by go_simp
  have c_m_2 : (w.alloc (.cells #[.int .i64 n, .int .i64 8, .slice p gs.length cap] 24)).cell? ⟨w.heap.size, 2, none⟩ = some (.slice p gs.length cap) := by go_simp
  have hB1 := below_two hB0 hs1
  clear hB0 hs1
  generalize (w.alloc (.cells #[.int .i64 n, .int .i64 8, .slice p gs.length cap] 24)) = w1 at *
  have z_m := World.block_lt_of_cell? _ _ c_m_0
  have HC : Hid (∀ (i : Nat) (x : Int), gs[i]? = some x → ∃ b o, p = some ⟨b, o, none⟩ ∧ w1.cell? ⟨b, o + i, none⟩ = some (.int .i64 x)) := Lib.hid fun i x hx => let ⟨b, o, e, c⟩ := hc i x hx; ⟨b, o, e, cell_later hB1 c⟩
  clear hc HI
  go_wp2
  refine wp_loop_rounds 8 ?_
  iterate 8 (rw [rounds_succ]; go_wp2)
  go_loop [5, 6] (RfRel gs) (fun _ i => gs.length - (intOf i).toNat)
  case atStart => exact ⟨0, 0, Nat.zero_le _, rfl, rfl, Lib.hid (Met.ah_zero _), Lib.hid (by simp), by omega, by omega⟩
  case round =>
    obtain ⟨k, A, hk, rfl, rfl, HA, HP, hA0, hA1⟩ := hrel
    by_cases hlt : k < gs.length
    · have hlt' : (k : Int) < (gs.length : Int) := by omega
      obtain ⟨x, hx⟩ : ∃ x, gs[k]? = some x := ⟨_, List.getElem?_eq_getElem hlt⟩
      obtain ⟨b, o, rfl, hcell⟩ := HC.out k x hx
      have HX := Lib.hid hx
      clear hx
      by_cases hok : 1 ≤ x ∧ x ≤ 32
      · obtain ⟨hx1, hx2⟩ := hok
        have g1 : ¬ x < 1 := by omega
        have g2 : ¬ 32 < x := by omega
        have HP2 : Hid (∀ g ∈ gs.take (k + 1), 1 ≤ g ∧ g ≤ 32) := Lib.hid (by rw [Met.take_succ_at HX.out]; intro g hg; rcases List.mem_append.1 hg with h | h; exact HP.out g h; simp at h; omega)
        go_wp2
        refine ⟨⟨k + 1, A + x, by omega, by go_num, rfl, Lib.hid (by rw [Met.ah_succ HX.out, HA.out]), HP2, by omega, by omega⟩, by simp [intOf]; omega⟩
      · have HE : Hid (Met.okG n gs = false) := Lib.hid (Met.okG_big (List.mem_of_getElem? HX.out) n32 (by omega))
        by_cases h1 : x < 1
        · go_wp2
          go_ret
          exact ⟨ret_bool HE.out.symm, hB1⟩
        · have h2 : 32 < x := by omega
          go_wp2
          go_ret
          exact ⟨ret_bool HE.out.symm, hB1⟩
    · obtain rfl : k = gs.length := by omega
      rw [List.take_length] at HP
      have HE : Hid (Met.okG n gs = ((gs.length : Int) == 0 || A == n)) := Lib.hid (by rw [Met.okG_all (fun g hg => (HP.out g hg).1), ← HA.out, Met.ah_all])
      clear HC
      by_cases hz : gs.length = 0
      · have hz1 : ((gs.length : Int) == 0) = true := beq_iff_eq.2 (by omega)
        have HE1 : Hid (Met.okG n gs = true) := Lib.hid (by rw [HE.out, hz1]; rfl)
        go_wp2
        go_ret
        exact ⟨ret_bool HE1.out.symm, hB1⟩
      · have hz1 : ((gs.length : Int) == 0) = false := beq_eq_false_iff_ne.2 (by omega)
        have HE1 : Hid (Met.okG n gs = (A == n)) := Lib.hid (by rw [HE.out, hz1]; rfl)
        go_wp2
        go_ret
        exact ⟨ret_bool HE1.out.symm, hB1⟩

set_option maxRecDepth 100000 in
set_option maxHeartbeats 4000000 in
theorem refR_d16 (n : Int) (v : Value) (gs : List Int) (w : World) (hI : Ints w v gs) (n1 : 1 ≤ n) (n32 : n ≤ 32) :
    Calls Try.prog 17 #[mt n 16 v] w fun ed w' => ed = .returned (.bool (Met.okG n gs)) ∧ Below w.heap.size w w' := by
  obtain ⟨p, cap, rfl, hl, hc⟩ := hI
  have HI : Hid (Ints w (.slice p gs.length cap) gs) := Lib.hid ⟨p, cap, rfl, hl, hc⟩
  have hB0 : Below w.heap.size w w := Below.refl _ _
  go_enter Try.func17, Try.ntmps17
  go_wp2_with fail
  have hs1 : Below w.heap.size w (w.alloc (.cells #[.int .i64 n, .int .i64 16, .slice p gs.length cap] 24)) := by repeat (first | exact Below.refl _ _ | refine Below.alloc ?_ (by simp <;> omega) _)
  have c_m_0 : (w.alloc (.cells #[.int .i64 n, .int .i64 16, .slice p gs.length cap] 24)).cell? ⟨w.heap.size, 0, none⟩ = some (.int .i64 n) := by go_simp
  have c_m_1 : (w.alloc (.cells #[.int .i64 n, .int .i64 16, .slice p gs.length cap] 24)).cell? ⟨w.heap.size, 1, none⟩ = some (.int .i64 16) := by go_simp
  have c_m_2 : (w.alloc (.cells #[.int .i64 n, .int .i64 16, .slice p gs.length cap] 24)).cell? ⟨w.heap.size, 2, none⟩ = some (.slice p gs.length cap) := by go_simp
  have hB1 := below_two hB0 hs1
  clear hB0 hs1
  generalize (w.alloc (.cells #[.int .i64 n, .int .i64 16, .slice p gs.length cap] 24)) = w1 at *
  have z_m := World.block_lt_of_cell? _ _ c_m_0
  have HC : Hid (∀ (i : Nat) (x : Int), gs[i]? = some x → ∃ b o, p = some ⟨b, o, none⟩ ∧ w1.cell? ⟨b, o + i, none⟩ = some (.int .i64 x)) := Lib.hid fun i x hx => let ⟨b, o, e, c⟩ := hc i x hx; ⟨b, o, e, cell_later hB1 c⟩
  clear hc HI
  go_wp2
  refine wp_loop_rounds 8 ?_
  iterate 8 (rw [rounds_succ]; go_wp2)
  go_loop [5, 6] (RfRel gs) (fun _ i => gs.length - (intOf i).toNat)
  case atStart => exact ⟨0, 0, Nat.zero_le _, rfl, rfl, Lib.hid (Met.ah_zero _), Lib.hid (by simp), by omega, by omega⟩
  case round =>
    obtain ⟨k, A, hk, rfl, rfl, HA, HP, hA0, hA1⟩ := hrel
    by_cases hlt : k < gs.length
    · have hlt' : (k : Int) < (gs.length : Int) := by omega
      obtain ⟨x, hx⟩ : ∃ x, gs[k]? = some x := ⟨_, List.getElem?_eq_getElem hlt⟩
      obtain ⟨b, o, rfl, hcell⟩ := HC.out k x hx
      have HX := Lib.hid hx
      clear hx
      by_cases hok : 1 ≤ x ∧ x ≤ 32
      · obtain ⟨hx1, hx2⟩ := hok
        have g1 : ¬ x < 1 := by omega
        have g2 : ¬ 32 < x := by omega
        have HP2 : Hid (∀ g ∈ gs.take (k + 1), 1 ≤ g ∧ g ≤ 32) := Lib.hid (by rw [Met.take_succ_at HX.out]; intro g hg; rcases List.mem_append.1 hg with h | h; exact HP.out g h; simp at h; omega)
        go_wp2
        refine ⟨⟨k + 1, A + x, by omega, by go_num, rfl, Lib.hid (by rw [Met.ah_succ HX.out, HA.out]), HP2, by omega, by omega⟩, by simp [intOf]; omega⟩
      · have HE : Hid (Met.okG n gs = false) := Lib.hid (Met.okG_big (List.mem_of_getElem? HX.out) n32 (by omega))
        by_cases h1 : x < 1
        · go_wp2
          go_ret
          exact ⟨ret_bool HE.out.symm, hB1⟩
        · have h2 : 32 < x := by omega
          go_wp2
          go_ret
          exact ⟨ret_bool HE.out.symm, hB1⟩
    · obtain rfl : k = gs.length := by omega
      rw [List.take_length] at HP
      have HE : Hid (Met.okG n gs = ((gs.length : Int) == 0 || A == n)) := Lib.hid (by rw [Met.okG_all (fun g hg => (HP.out g hg).1), ← HA.out, Met.ah_all])
      clear HC
      by_cases hz : gs.length = 0
      · have hz1 : ((gs.length : Int) == 0) = true := beq_iff_eq.2 (by omega)
        have HE1 : Hid (Met.okG n gs = true) := Lib.hid (by rw [HE.out, hz1]; rfl)
        go_wp2
        go_ret
        exact ⟨ret_bool HE1.out.symm, hB1⟩
      · have hz1 : ((gs.length : Int) == 0) = false := beq_eq_false_iff_ne.2 (by omega)
        have HE1 : Hid (Met.okG n gs = (A == n)) := Lib.hid (by rw [HE.out, hz1]; rfl)
        go_wp2
        go_ret
        exact ⟨ret_bool HE1.out.symm, hB1⟩

set_option maxRecDepth 100000 in
set_option maxHeartbeats 4000000 in
theorem refR_d32 (n : Int) (v : Value) (gs : List Int) (w : World) (hI : Ints w v gs) (n1 : 1 ≤ n) (n32 : n ≤ 32) :
    Calls Try.prog 17 #[mt n 32 v] w fun ed w' => ed = .returned (.bool (Met.okG n gs)) ∧ Below w.heap.size w w' := by
  obtain ⟨p, cap, rfl, hl, hc⟩ := hI
  have HI : Hid (Ints w (.slice p gs.length cap) gs) := Lib.hid ⟨p, cap, rfl, hl, hc⟩
  have hB0 : Below w.heap.size w w := Below.refl _ _
  go_enter Try.func17, Try.ntmps17
  go_wp2_with fail
  have hs1 : Below w.heap.size w (w.alloc (.cells #[.int .i64 n, .int .i64 32, .slice p gs.length cap] 24)) := by repeat (first | exact Below.refl _ _ | refine Below.alloc ?_ (by simp <;> omega) _)
  have c_m_0 : (w.alloc (.cells #[.int .i64 n, .int .i64 32, .slice p gs.length cap] 24)).cell? ⟨w.heap.size, 0, none⟩ = some (.int .i64 n) := by go_simp
  have c_m_1 : (w.alloc (.cells #[.int .i64 n, .int .i64 32, .slice p gs.length cap] 24)).cell? ⟨w.heap.size, 1, none⟩ = some (.int .i64 32) := by go_simp
  have c_m_2 : (w.alloc (.cells #[.int .i64 n, .int .i64 32, .slice p gs.length cap] 24)).cell? ⟨w.heap.size, 2, none⟩ = some (.slice p gs.length cap) := by go_simp
  have hB1 := below_two hB0 hs1
  clear hB0 hs1
  generalize (w.alloc (.cells #[.int .i64 n, .int .i64 32, .slice p gs.length cap] 24)) = w1 at *
  have z_m := World.block_lt_of_cell? _ _ c_m_0
  have HC : Hid (∀ (i : Nat) (x : Int), gs[i]? = some x → ∃ b o, p = some ⟨b, o, none⟩ ∧ w1.cell? ⟨b, o + i, none⟩ = some (.int .i64 x)) := Lib.hid fun i x hx => let ⟨b, o, e, c⟩ := hc i x hx; ⟨b, o, e, cell_later hB1 c⟩
  clear hc HI
  go_wp2
  refine wp_loop_rounds 8 ?_
  iterate 8 (rw [rounds_succ]; go_wp2)
  go_loop [5, 6] (RfRel gs) (fun _ i => gs.length - (intOf i).toNat)
  case atStart => exact ⟨0, 0, Nat.zero_le _, rfl, rfl, Lib.hid (Met.ah_zero _), Lib.hid (by simp), by omega, by omega⟩
  case round =>
    obtain ⟨k, A, hk, rfl, rfl, HA, HP, hA0, hA1⟩ := hrel
    by_cases hlt : k < gs.length
    · have hlt' : (k : Int) < (gs.length : Int) := by omega
      obtain ⟨x, hx⟩ : ∃ x, gs[k]? = some x := ⟨_, List.getElem?_eq_getElem hlt⟩
      obtain ⟨b, o, rfl, hcell⟩ := HC.out k x hx
      have HX := Lib.hid hx
      clear hx
      by_cases hok : 1 ≤ x ∧ x ≤ 32
      · obtain ⟨hx1, hx2⟩ := hok
        have g1 : ¬ x < 1 := by omega
        have g2 : ¬ 32 < x := by omega
        have HP2 : Hid (∀ g ∈ gs.take (k + 1), 1 ≤ g ∧ g ≤ 32) := Lib.hid (by rw [Met.take_succ_at HX.out]; intro g hg; rcases List.mem_append.1 hg with h | h; exact HP.out g h; simp at h; omega)
        go_wp2
        refine ⟨⟨k + 1, A + x, by omega, by go_num, rfl, Lib.hid (by rw [Met.ah_succ HX.out, HA.out]), HP2, by omega, by omega⟩, by simp [intOf]; omega⟩
      · have HE : Hid (Met.okG n gs = false) := Lib.hid (Met.okG_big (List.mem_of_getElem? HX.out) n32 (by omega))
        by_cases h1 : x < 1
        · go_wp2
          go_ret
          exact ⟨ret_bool HE.out.symm, hB1⟩
        · have h2 : 32 < x := by omega
          go_wp2
          go_ret
          exact ⟨ret_bool HE.out.symm, hB1⟩
    · obtain rfl : k = gs.length := by omega
      rw [List.take_length] at HP
      have HE : Hid (Met.okG n gs = ((gs.length : Int) == 0 || A == n)) := Lib.hid (by rw [Met.okG_all (fun g hg => (HP.out g hg).1), ← HA.out, Met.ah_all])
      clear HC
      by_cases hz : gs.length = 0
      · have hz1 : ((gs.length : Int) == 0) = true := beq_iff_eq.2 (by omega)
        have HE1 : Hid (Met.okG n gs = true) := Lib.hid (by rw [HE.out, hz1]; rfl)
        go_wp2
        go_ret
        exact ⟨ret_bool HE1.out.symm, hB1⟩
      · have hz1 : ((gs.length : Int) == 0) = false := beq_eq_false_iff_ne.2 (by omega)
        have HE1 : Hid (Met.okG n gs = (A == n)) := Lib.hid (by rw [HE.out, hz1]; rfl)
        go_wp2
        go_ret
        exact ⟨ret_bool HE1.out.symm, hB1⟩

set_option maxRecDepth 100000 in
set_option maxHeartbeats 4000000 in
theorem refR_d64 (n : Int) (v : Value) (gs : List Int) (w : World) (hI : Ints w v gs) (n1 : 1 ≤ n) (n32 : n ≤ 32) :
    Calls Try.prog 17 #[mt n 64 v] w fun ed w' => ed = .returned (.bool (Met.okG n gs)) ∧ Below w.heap.size w w' := by
  obtain ⟨p, cap, rfl, hl, hc⟩ := hI
  have HI : Hid (Ints w (.slice p gs.length cap) gs) := Lib.hid ⟨p, cap, rfl, hl, hc⟩
  have hB0 : Below w.heap.size w w := Below.refl _ _
  go_enter Try.func17, Try.ntmps17
  go_wp2_with fail
  have hs1 : Below w.heap.size w (w.alloc (.cells #[.int .i64 n, .int .i64 64, .slice p gs.length cap] 24)) := by repeat (first | exact Below.refl _ _ | refine Below.alloc ?_ (by simp <;> omega) _)
  have c_m_0 : (w.alloc (.cells #[.int .i64 n, .int .i64 64, .slice p gs.length cap] 24)).cell? ⟨w.heap.size, 0, none⟩ = some (.int .i64 n) := by go_simp
  have c_m_1 : (w.alloc (.cells #[.int .i64 n, .int .i64 64, .slice p gs.length cap] 24)).cell? ⟨w.heap.size, 1, none⟩ = some (.int .i64 64) := by go_simp
  have c_m_2 : (w.alloc (.cells #[.int .i64 n, .int .i64 64, .slice p gs.length cap] 24)).cell? ⟨w.heap.size, 2, none⟩ = some (.slice p gs.length cap) := by go_simp
  have hB1 := below_two hB0 hs1
  clear hB0 hs1
  generalize (w.alloc (.cells #[.int .i64 n, .int .i64 64, .slice p gs.length cap] 24)) = w1 at *
  have z_m := World.block_lt_of_cell? _ _ c_m_0
  have HC : Hid (∀ (i : Nat) (x : Int), gs[i]? = some x → ∃ b o, p = some ⟨b, o, none⟩ ∧ w1.cell? ⟨b, o + i, none⟩ = some (.int .i64 x)) := Lib.hid fun i x hx => let ⟨b, o, e, c⟩ := hc i x hx; ⟨b, o, e, cell_later hB1 c⟩
  clear hc HI
  go_wp2
  refine wp_loop_rounds 8 ?_
  iterate 8 (rw [rounds_succ]; go_wp2)
  go_loop [5, 6] (RfRel gs) (fun _ i => gs.length - (intOf i).toNat)
  case atStart => exact ⟨0, 0, Nat.zero_le _, rfl, rfl, Lib.hid (Met.ah_zero _), Lib.hid (by simp), by omega, by omega⟩
  case round =>
    obtain ⟨k, A, hk, rfl, rfl, HA, HP, hA0, hA1⟩ := hrel
    by_cases hlt : k < gs.length
    · have hlt' : (k : Int) < (gs.length : Int) := by omega
      obtain ⟨x, hx⟩ : ∃ x, gs[k]? = some x := ⟨_, List.getElem?_eq_getElem hlt⟩
      obtain ⟨b, o, rfl, hcell⟩ := HC.out k x hx
      have HX := Lib.hid hx
      clear hx
      by_cases hok : 1 ≤ x ∧ x ≤ 32
      · obtain ⟨hx1, hx2⟩ := hok
        have g1 : ¬ x < 1 := by omega
        have g2 : ¬ 32 < x := by omega
        have HP2 : Hid (∀ g ∈ gs.take (k + 1), 1 ≤ g ∧ g ≤ 32) := Lib.hid (by rw [Met.take_succ_at HX.out]; intro g hg; rcases List.mem_append.1 hg with h | h; exact HP.out g h; simp at h; omega)
        go_wp2
        refine ⟨⟨k + 1, A + x, by omega, by go_num, rfl, Lib.hid (by rw [Met.ah_succ HX.out, HA.out]), HP2, by omega, by omega⟩, by simp [intOf]; omega⟩
      · have HE : Hid (Met.okG n gs = false) := Lib.hid (Met.okG_big (List.mem_of_getElem? HX.out) n32 (by omega))
        by_cases h1 : x < 1
        · go_wp2
          go_ret
          exact ⟨ret_bool HE.out.symm, hB1⟩
        · have h2 : 32 < x := by omega
          go_wp2
          go_ret
          exact ⟨ret_bool HE.out.symm, hB1⟩
    · obtain rfl : k = gs.length := by omega
      rw [List.take_length] at HP
      have HE : Hid (Met.okG n gs = ((gs.length : Int) == 0 || A == n)) := Lib.hid (by rw [Met.okG_all (fun g hg => (HP.out g hg).1), ← HA.out, Met.ah_all])
      clear HC
      by_cases hz : gs.length = 0
      · have hz1 : ((gs.length : Int) == 0) = true := beq_iff_eq.2 (by omega)
        have HE1 : Hid (Met.okG n gs = true) := Lib.hid (by rw [HE.out, hz1]; rfl)
        go_wp2
        go_ret
        exact ⟨ret_bool HE1.out.symm, hB1⟩
      · have hz1 : ((gs.length : Int) == 0) = false := beq_eq_false_iff_ne.2 (by omega)
        have HE1 : Hid (Met.okG n gs = (A == n)) := Lib.hid (by rw [HE.out, hz1]; rfl)
        go_wp2
        go_ret
        exact ⟨ret_bool HE1.out.symm, hB1⟩

theorem refRight5_any (n d : Int) (v : Value) (gs : List Int) (w : World) (hI : Ints w v gs) :
    Calls Try.prog 17 #[mt n d v] w fun ed w' => ed = .returned (.bool (Met.right n d gs)) ∧ Below w.heap.size w w' := by
  unfold Met.right
  by_cases hn : 1 ≤ n ∧ n ≤ 32
  · have h1 : Met.okN n = true := by unfold Met.okN; exact decide_eq_true hn
    rw [h1]
    cases h2 : Met.okD d
    · exact refR_2 n d v gs w hI hn.1 hn.2 h2
    · rcases (Met.okD_iff d).1 h2 with rfl | rfl | rfl | rfl | rfl | rfl | rfl
      · exact refR_d1 n v gs w hI hn.1 hn.2
      · exact refR_d2 n v gs w hI hn.1 hn.2
      · exact refR_d4 n v gs w hI hn.1 hn.2
      · exact refR_d8 n v gs w hI hn.1 hn.2
      · exact refR_d16 n v gs w hI hn.1 hn.2
      · exact refR_d32 n v gs w hI hn.1 hn.2
      · exact refR_d64 n v gs w hI hn.1 hn.2
  · have h1 : Met.okN n = false := by unfold Met.okN; exact decide_eq_false hn
    rw [h1]
    exact refR_1 n d v gs w hI (by omega)
theorem refRight5_is {n d : Int} {v : Value} {gs : List Int} {w : World} (hI : Ints w v gs) {b : Bool} (h : Met.right n d gs = b) :
    Calls Try.prog 17 #[mt n d v] w fun ed w' => ed = .returned (.bool b) ∧ Below w.heap.size w w' := by have := refRight5_any n d v gs w hI; rw [h] at this; exact this

set_option maxRecDepth 100000 in
set_option maxHeartbeats 4000000 in
theorem refLength_0 (n d : Int) (v : Value) (gs : List Int) (w : World) (hI : Ints w v gs) (h : Met.right n d gs = false) :
    Calls Try.prog 13 #[mt n d v] w fun ed w' => ed = .returned (rvp (0, 0) 50) ∧ Below w.heap.size w w' := by
  obtain ⟨p, cap, rfl, hl, hc⟩ := hI
  have HI : Hid (Ints w (.slice p gs.length cap) gs) := Lib.hid ⟨p, cap, rfl, hl, hc⟩
  clear hl hc
  have hB0 : Below w.heap.size w w := Below.refl _ _
  go_enter Try.func13, Try.ntmps13
  go_wp2_with fail
  refine (refRight5_is (HI.out.later ((hB0.alloc hB0.size (.cells #[.int .i64 n, .int .i64 d, .slice p gs.length cap] 24)).alloc (hB0.alloc hB0.size (.cells #[.int .i64 n, .int .i64 d, .slice p gs.length cap] 24)).size (.cells #[.int .i64 0, .int .i64 0] 26))) h).mono ?_
  rintro e w1 ⟨rfl, hb1⟩
  have hs1 : Below w.heap.size w w1 := Below.trans (by repeat (first | exact Below.refl _ _ | refine Below.alloc ?_ (by simp <;> omega) _)) (hb1.mono (by simp <;> omega))
  have c_m_0 : w1.cell? ⟨w.heap.size, 0, none⟩ = some (.int .i64 n) := (hb1.cell (by simp <;> omega)).trans (by go_simp)
  have c_m_1 : w1.cell? ⟨w.heap.size, 1, none⟩ = some (.int .i64 d) := (hb1.cell (by simp <;> omega)).trans (by go_simp)
  have c_m_2 : w1.cell? ⟨w.heap.size, 2, none⟩ = some (.slice p gs.length cap) := (hb1.cell (by simp <;> omega)).trans (by go_simp)
  have c_r_0 : w1.cell? ⟨w.heap.size + 1, 0, none⟩ = some (.int .i64 0) := (hb1.cell (by simp <;> omega)).trans (by go_simp)
  have f_r_0 : w1.frozen? ⟨w.heap.size + 1, 0, none⟩ = false := (hb1.frozen (by simp <;> omega)).trans (by go_simp)
  have c_r_1 : w1.cell? ⟨w.heap.size + 1, 1, none⟩ = some (.int .i64 0) := (hb1.cell (by simp <;> omega)).trans (by go_simp)
  have f_r_1 : w1.frozen? ⟨w.heap.size + 1, 1, none⟩ = false := (hb1.frozen (by simp <;> omega)).trans (by go_simp)
  have z_m := World.block_lt_of_cell? _ _ c_m_0
  have z_r := World.block_lt_of_cell? _ _ c_r_0
  have hB1 := below_two hB0 hs1
  clear hB0 hs1 hb1
  obtain ⟨m0, m1⟩ := put2_of (x := .int .i64 0) (y := .int .i64 0) c_r_0 c_r_1
  go_wp2
  exact bodyPost_ret (v := rvp (0, 0) 50) (by simp [results, Try.results13, go_sem, m0, m1]) rfl ⟨rfl, put2_below hB1 (by omega)⟩

set_option maxRecDepth 100000 in
set_option maxHeartbeats 4000000 in
theorem refLength_1 (n d : Int) (v : Value) (gs : List Int) (w : World) (hI : Ints w v gs) (h : Met.right n d gs = true) :
    Calls Try.prog 13 #[mt n d v] w fun ed w' => ed = .returned (rvp (Met.of n d) 0) ∧ Below w.heap.size w w' := by
  obtain ⟨p, cap, rfl, hl, hc⟩ := hI
  have HI : Hid (Ints w (.slice p gs.length cap) gs) := Lib.hid ⟨p, cap, rfl, hl, hc⟩
  clear hl hc
  have hr := Met.isRight h
  have n1 := hr.n1
  have n2 := hr.n32
  have d1 := hr.d1
  have d2 := hr.d64
  clear hr
  have hB0 : Below w.heap.size w w := Below.refl _ _
  go_enter Try.func13, Try.ntmps13
  go_wp2_with fail
  refine (refRight5_is (HI.out.later ((hB0.alloc hB0.size (.cells #[.int .i64 n, .int .i64 d, .slice p gs.length cap] 24)).alloc (hB0.alloc hB0.size (.cells #[.int .i64 n, .int .i64 d, .slice p gs.length cap] 24)).size (.cells #[.int .i64 0, .int .i64 0] 26))) h).mono ?_
  rintro e w1 ⟨rfl, hb1⟩
  have hs1 : Below w.heap.size w w1 := Below.trans (by repeat (first | exact Below.refl _ _ | refine Below.alloc ?_ (by simp <;> omega) _)) (hb1.mono (by simp <;> omega))
  have c_m_0 : w1.cell? ⟨w.heap.size, 0, none⟩ = some (.int .i64 n) := (hb1.cell (by simp <;> omega)).trans (by go_simp)
  have c_m_1 : w1.cell? ⟨w.heap.size, 1, none⟩ = some (.int .i64 d) := (hb1.cell (by simp <;> omega)).trans (by go_simp)
  have c_m_2 : w1.cell? ⟨w.heap.size, 2, none⟩ = some (.slice p gs.length cap) := (hb1.cell (by simp <;> omega)).trans (by go_simp)
  have c_r_0 : w1.cell? ⟨w.heap.size + 1, 0, none⟩ = some (.int .i64 0) := (hb1.cell (by simp <;> omega)).trans (by go_simp)
  have f_r_0 : w1.frozen? ⟨w.heap.size + 1, 0, none⟩ = false := (hb1.frozen (by simp <;> omega)).trans (by go_simp)
  have c_r_1 : w1.cell? ⟨w.heap.size + 1, 1, none⟩ = some (.int .i64 0) := (hb1.cell (by simp <;> omega)).trans (by go_simp)
  have f_r_1 : w1.frozen? ⟨w.heap.size + 1, 1, none⟩ = false := (hb1.frozen (by simp <;> omega)).trans (by go_simp)
  have z_m := World.block_lt_of_cell? _ _ c_m_0
  have z_r := World.block_lt_of_cell? _ _ c_r_0
  have hB1 := below_two hB0 hs1
  clear hB0 hs1 hb1
  go_wp2_with fail
  refine (refOfP_any (n := n) (d := d) (by omega) (by omega) (by omega) (by omega) _).mono ?_
  rintro e w2 ⟨rfl, hb2⟩
  have hs2 := hb2
  replace c_m_0 := cell_later hs2 c_m_0
  replace c_m_1 := cell_later hs2 c_m_1
  replace c_m_2 := cell_later hs2 c_m_2
  replace f_r_0 := frozen_later hs2 c_r_0 f_r_0
  replace c_r_0 := cell_later hs2 c_r_0
  replace f_r_1 := frozen_later hs2 c_r_1 f_r_1
  replace c_r_1 := cell_later hs2 c_r_1
  clear z_m
  have z_m := World.block_lt_of_cell? _ _ c_m_0
  clear z_r
  have z_r := World.block_lt_of_cell? _ _ c_r_0
  have hB2 := below_two hB1 hs2
  clear hB1 hs2
  obtain ⟨X, HX⟩ : ∃ X, Hid (Met.of n d = X) := ⟨_, Lib.hid rfl⟩
  rw [HX.out]
  obtain ⟨x, y⟩ := X
  dsimp only
  obtain ⟨m0, m1⟩ := put2_of (x := .int .i64 x) (y := .int .i64 y) c_r_0 c_r_1
  go_wp2
  exact bodyPost_ret (v := rvp (x, y) 0) (by simp [results, Try.results13, go_sem, m0, m1]) rfl ⟨by rw [HX.out], put2_below hB2 (by omega)⟩

theorem refLength_any (n d : Int) (v : Value) (gs : List Int) (w : World) (hI : Ints w v gs) :
    Calls Try.prog 13 #[mt n d v] w fun ed w' => ed = .returned (rvp (lenP n d gs) (lenE n d gs)) ∧ Below w.heap.size w w' := by
  unfold lenP lenE
  cases h : Met.right n d gs
  · exact refLength_0 n d v gs w hI h
  · exact refLength_1 n d v gs w hI h
end Go.Proofs.Ytlodhfdikglgoaa
