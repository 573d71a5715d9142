/-
  The contracts of meter.Right, Length, together and groups.
-/
import Derived.Test.YtlodhfdikglgoaaMetA
namespace Go.Proofs.Ytlodhfdikglgoaa
open Go.RowKit

set_option maxRecDepth 100000 in
set_option maxHeartbeats 4000000 in
theorem mright_1 (n d : Int) (v : Value) (w : World) (h : Met.okN n = false) :
    Calls Try.prog 16 #[mt n d v] w fun ed w' => ed = .returned (.bool false) ∧ Below w.heap.size w w' := by
  have hw := mwithin_any n 1 32
  unfold Met.okN at h
  rw [h] at hw
  clear h
  have HW := Lib.hid hw
  clear hw
  go_enter Try.func16, Try.ntmps16
  go_wp2_with (first | (go_at_call 35; refine (HW.out _).mono ?_; rintro e w' ⟨rfl, rfl⟩))
  go_ret
  exact ⟨rfl, (by repeat (first | exact Below.refl _ _ | refine below_drewN ?_ _ | refine Below.drew ?_ | refine Below.setCell ?_ (by simp <;> omega) _ | refine Below.alloc ?_ (by simp <;> omega) _))⟩

set_option maxRecDepth 100000 in
set_option maxHeartbeats 4000000 in
theorem mright_2 (n d : Int) (v : Value) (w : World) (h : Met.okN n = true) (h2 : Met.okD d = false) :
    Calls Try.prog 16 #[mt n d v] w fun ed w' => ed = .returned (.bool false) ∧ Below w.heap.size w w' := by
  have hw := mwithin_any n 1 32
  unfold Met.okN at h
  rw [h] at hw
  clear h
  have HW := Lib.hid hw
  clear hw
  have hd := written_any d
  rw [h2] at hd
  have HD := Lib.hid hd
  clear hd h2
  go_enter Try.func16, Try.ntmps16
  go_wp2_with (first | (go_at_call 35; refine (HW.out _).mono ?_; rintro e w' ⟨rfl, rfl⟩) | (go_at_call 36; refine (HD.out _).mono ?_; rintro e w' ⟨rfl, rfl⟩))
  go_ret
  exact ⟨rfl, (by repeat (first | exact Below.refl _ _ | refine below_drewN ?_ _ | refine Below.drew ?_ | refine Below.setCell ?_ (by simp <;> omega) _ | refine Below.alloc ?_ (by simp <;> omega) _))⟩

set_option maxRecDepth 100000 in
set_option maxHeartbeats 4000000 in
theorem mright_3 (n d : Int) (v : Value) (gs : List Int) (w : World) (hI : Ints w v gs) (h : Met.okN n = true) (h2 : Met.okD d = true) :
    Calls Try.prog 16 #[mt n d v] w fun ed w' => ed = .returned (.bool (Met.okG n gs)) ∧ Below w.heap.size w w' := by
  have hn : 1 ≤ n ∧ n ≤ 32 := by unfold Met.okN at h; exact of_decide_eq_true h
  have hw := mwithin_any n 1 32
  unfold Met.okN at h
  rw [h] at hw
  clear h
  have HW := Lib.hid hw
  clear hw
  have hd := written_any d
  rw [h2] at hd
  have HD := Lib.hid hd
  clear hd h2
  obtain ⟨n1, n32⟩ := hn
  obtain ⟨p, cap, rfl, hl, hc⟩ := hI
  have HI : Hid (Ints w (.slice p gs.length cap) gs) := Lib.hid ⟨p, cap, rfl, hl, hc⟩
  clear hl hc
  have hB0 : Below w.heap.size w w := Below.refl _ _
  go_enter Try.func16, Try.ntmps16
  go_wp2_with fail
  have hs1 : Below w.heap.size w (w.alloc (.cells #[.int .i64 n, .int .i64 d, .slice p gs.length cap] 24)) := by repeat (first | exact Below.refl _ _ | refine Below.alloc ?_ (by simp <;> omega) _)
  have c_m_0 : (w.alloc (.cells #[.int .i64 n, .int .i64 d, .slice p gs.length cap] 24)).cell? ⟨w.heap.size, 0, none⟩ = some (.int .i64 n) := by go_simp
  have c_m_1 : (w.alloc (.cells #[.int .i64 n, .int .i64 d, .slice p gs.length cap] 24)).cell? ⟨w.heap.size, 1, none⟩ = some (.int .i64 d) := by go_simp
  have c_m_2 : (w.alloc (.cells #[.int .i64 n, .int .i64 d, .slice p gs.length cap] 24)).cell? ⟨w.heap.size, 2, none⟩ = some (.slice p gs.length cap) := by go_simp
  have hB1 := below_two hB0 hs1
  clear hB0 hs1
  generalize (w.alloc (.cells #[.int .i64 n, .int .i64 d, .slice p gs.length cap] 24)) = w1 at *
  have z_m := World.block_lt_of_cell? _ _ c_m_0
  have HI1 := Lib.hid (HI.out.later hB1)
  clear HI
  go_wp2_with (first | (go_at_call 35; refine (HW.out _).mono ?_; rintro e w' ⟨rfl, rfl⟩) | (go_at_call 36; refine (HD.out _).mono ?_; rintro e w' ⟨rfl, rfl⟩))
  refine (filled_any n d _ gs _ HI1.out n1 n32).mono ?_
  rintro e w2 ⟨rfl, hb⟩
  go_wp2
  go_ret
  exact ⟨rfl, below_two hB1 hb⟩

theorem mright_any (n d : Int) (v : Value) (gs : List Int) (w : World) (hI : Ints w v gs) :
    Calls Try.prog 16 #[mt n d v] w fun ed w' => ed = .returned (.bool (Met.right n d gs)) ∧ Below w.heap.size w w' := by
  unfold Met.right
  cases h : Met.okN n
  · exact mright_1 n d v w h
  cases h2 : Met.okD d
  · exact mright_2 n d v w h h2
  · exact mright_3 n d v gs w hI h h2
theorem mright_is {n d : Int} {v : Value} {gs : List Int} {w : World} (hI : Ints w v gs) {b : Bool} (h : Met.right n d gs = b) :
    Calls Try.prog 16 #[mt n d v] w fun ed w' => ed = .returned (.bool b) ∧ Below w.heap.size w w' := by
  have := mright_any n d v gs w hI
  rw [h] at this
  exact this
def lenP (n d : Int) (gs : List Int) : Met.Pr := if Met.right n d gs then Met.of n d else (0, 0)
def lenE (n d : Int) (gs : List Int) : Int := if Met.right n d gs then 0 else 50
theorem ofP_any {n d : Int} (hd1 : 1 ≤ d) (hd2 : d ≤ 1000000000) (hn1 : -1000000000 ≤ n) (hn2 : n ≤ 1000000000) (w : World) :
    Calls Try.prog 28 #[.int .i64 n, .int .i64 d] w fun ed w' => ed = .returned (rvp (Met.of n d) 0) ∧ Below w.heap.size w w' := by
  have h := of_any n d w (i64_small hn1 hn2) (i64_small (by omega) hd2)
  rw [Met.of_small hd1 hd2 hn1 hn2] at h
  exact h
theorem refOfP_any {n d : Int} (hd1 : 1 ≤ d) (hd2 : d ≤ 1000000000) (hn1 : -1000000000 ≤ n) (hn2 : n ≤ 1000000000) (w : World) :
    Calls Try.prog 29 #[.int .i64 n, .int .i64 d] w fun ed w' => ed = .returned (rvp (Met.of n d) 0) ∧ Below w.heap.size w w' := by
  have h := refOf_any n d w (i64_small hn1 hn2) (i64_small (by omega) hd2)
  rw [Met.of_small hd1 hd2 hn1 hn2] at h
  exact h

set_option maxRecDepth 100000 in
set_option maxHeartbeats 4000000 in
theorem mlength_0 (n d : Int) (v : Value) (gs : List Int) (w : World) (hI : Ints w v gs) (h : Met.right n d gs = false) :
    Calls Try.prog 12 #[mt n d v] w fun ed w' => ed = .returned (rvp (0, 0) 50) ∧ Below w.heap.size w w' := by
  obtain ⟨p, cap, rfl, hl, hc⟩ := hI
  have HI : Hid (Ints w (.slice p gs.length cap) gs) := Lib.hid ⟨p, cap, rfl, hl, hc⟩
  clear hl hc
  have hB0 : Below w.heap.size w w := Below.refl _ _
  go_enter Try.func12, Try.ntmps12
  go_wp2_with fail
  have hs1 : Below w.heap.size w ((w.alloc (.cells #[.int .i64 n, .int .i64 d, .slice p gs.length cap] 24)).alloc (.cells #[.int .i64 0, .int .i64 0] 26)) := by repeat (first | exact Below.refl _ _ | refine Below.alloc ?_ (by simp <;> omega) _)
  have c_m_0 : ((w.alloc (.cells #[.int .i64 n, .int .i64 d, .slice p gs.length cap] 24)).alloc (.cells #[.int .i64 0, .int .i64 0] 26)).cell? ⟨w.heap.size, 0, none⟩ = some (.int .i64 n) := by go_simp
  have c_m_1 : ((w.alloc (.cells #[.int .i64 n, .int .i64 d, .slice p gs.length cap] 24)).alloc (.cells #[.int .i64 0, .int .i64 0] 26)).cell? ⟨w.heap.size, 1, none⟩ = some (.int .i64 d) := by go_simp
  have c_m_2 : ((w.alloc (.cells #[.int .i64 n, .int .i64 d, .slice p gs.length cap] 24)).alloc (.cells #[.int .i64 0, .int .i64 0] 26)).cell? ⟨w.heap.size, 2, none⟩ = some (.slice p gs.length cap) := by go_simp
  have c_r_0 : ((w.alloc (.cells #[.int .i64 n, .int .i64 d, .slice p gs.length cap] 24)).alloc (.cells #[.int .i64 0, .int .i64 0] 26)).cell? ⟨w.heap.size + 1, 0, none⟩ = some (.int .i64 0) := by go_simp
  have f_r_0 : ((w.alloc (.cells #[.int .i64 n, .int .i64 d, .slice p gs.length cap] 24)).alloc (.cells #[.int .i64 0, .int .i64 0] 26)).frozen? ⟨w.heap.size + 1, 0, none⟩ = false := by go_simp
  have c_r_1 : ((w.alloc (.cells #[.int .i64 n, .int .i64 d, .slice p gs.length cap] 24)).alloc (.cells #[.int .i64 0, .int .i64 0] 26)).cell? ⟨w.heap.size + 1, 1, none⟩ = some (.int .i64 0) := by go_simp
  have f_r_1 : ((w.alloc (.cells #[.int .i64 n, .int .i64 d, .slice p gs.length cap] 24)).alloc (.cells #[.int .i64 0, .int .i64 0] 26)).frozen? ⟨w.heap.size + 1, 1, none⟩ = false := by go_simp
  have hB1 := below_two hB0 hs1
  clear hB0 hs1
  generalize ((w.alloc (.cells #[.int .i64 n, .int .i64 d, .slice p gs.length cap] 24)).alloc (.cells #[.int .i64 0, .int .i64 0] 26)) = w1 at *
  have z_m := World.block_lt_of_cell? _ _ c_m_0
  have z_r := World.block_lt_of_cell? _ _ c_r_0
  have HI1 := Lib.hid (HI.out.later hB1)
  clear HI
  go_wp2_with fail
  refine (mright_is HI1.out h).mono ?_
  rintro e w2 ⟨rfl, hb2⟩
  have hs2 := hb2
  replace c_m_0 := cell_later hs2 c_m_0
  replace c_m_1 := cell_later hs2 c_m_1
  replace c_m_2 := cell_later hs2 c_m_2
  replace f_r_0 := frozen_later hs2 c_r_0 f_r_0
  replace c_r_0 := cell_later hs2 c_r_0
  replace f_r_1 := frozen_later hs2 c_r_1 f_r_1
  replace c_r_1 := cell_later hs2 c_r_1
  clear z_m
  have z_m := World.block_lt_of_cell? _ _ c_m_0
  clear z_r
  have z_r := World.block_lt_of_cell? _ _ c_r_0
  have hB2 := below_two hB1 hs2
  clear hB1 hs2
  obtain ⟨m0, m1⟩ := put2_of (x := .int .i64 0) (y := .int .i64 0) c_r_0 c_r_1
  go_wp2
  exact bodyPost_ret (v := rvp (0, 0) 50) (by simp [results, Try.results12, go_sem, m0, m1]) rfl ⟨rfl, put2_below hB2 (by omega)⟩

set_option maxRecDepth 100000 in
set_option maxHeartbeats 4000000 in
theorem mlength_1 (n d : Int) (v : Value) (gs : List Int) (w : World) (hI : Ints w v gs) (h : Met.right n d gs = true) :
    Calls Try.prog 12 #[mt n d v] w fun ed w' => ed = .returned (rvp (Met.of n d) 0) ∧ Below w.heap.size w w' := by
  obtain ⟨p, cap, rfl, hl, hc⟩ := hI
  have HI : Hid (Ints w (.slice p gs.length cap) gs) := Lib.hid ⟨p, cap, rfl, hl, hc⟩
  clear hl hc
  have hr := Met.isRight h
  have n1 := hr.n1
  have n2 := hr.n32
  have d1 := hr.d1
  have d2 := hr.d64
  clear hr
  have hB0 : Below w.heap.size w w := Below.refl _ _
  go_enter Try.func12, Try.ntmps12
  go_wp2_with fail
  have hs1 : Below w.heap.size w ((w.alloc (.cells #[.int .i64 n, .int .i64 d, .slice p gs.length cap] 24)).alloc (.cells #[.int .i64 0, .int .i64 0] 26)) := by repeat (first | exact Below.refl _ _ | refine Below.alloc ?_ (by simp <;> omega) _)
  have c_m_0 : ((w.alloc (.cells #[.int .i64 n, .int .i64 d, .slice p gs.length cap] 24)).alloc (.cells #[.int .i64 0, .int .i64 0] 26)).cell? ⟨w.heap.size, 0, none⟩ = some (.int .i64 n) := by go_simp
  have c_m_1 : ((w.alloc (.cells #[.int .i64 n, .int .i64 d, .slice p gs.length cap] 24)).alloc (.cells #[.int .i64 0, .int .i64 0] 26)).cell? ⟨w.heap.size, 1, none⟩ = some (.int .i64 d) := by go_simp
  have c_m_2 : ((w.alloc (.cells #[.int .i64 n, .int .i64 d, .slice p gs.length cap] 24)).alloc (.cells #[.int .i64 0, .int .i64 0] 26)).cell? ⟨w.heap.size, 2, none⟩ = some (.slice p gs.length cap) := by go_simp
  have c_r_0 : ((w.alloc (.cells #[.int .i64 n, .int .i64 d, .slice p gs.length cap] 24)).alloc (.cells #[.int .i64 0, .int .i64 0] 26)).cell? ⟨w.heap.size + 1, 0, none⟩ = some (.int .i64 0) := by go_simp
  have f_r_0 : ((w.alloc (.cells #[.int .i64 n, .int .i64 d, .slice p gs.length cap] 24)).alloc (.cells #[.int .i64 0, .int .i64 0] 26)).frozen? ⟨w.heap.size + 1, 0, none⟩ = false := by go_simp
  have c_r_1 : ((w.alloc (.cells #[.int .i64 n, .int .i64 d, .slice p gs.length cap] 24)).alloc (.cells #[.int .i64 0, .int .i64 0] 26)).cell? ⟨w.heap.size + 1, 1, none⟩ = some (.int .i64 0) := by go_simp
  have f_r_1 : ((w.alloc (.cells #[.int .i64 n, .int .i64 d, .slice p gs.length cap] 24)).alloc (.cells #[.int .i64 0, .int .i64 0] 26)).frozen? ⟨w.heap.size + 1, 1, none⟩ = false := by go_simp
  have hB1 := below_two hB0 hs1
  clear hB0 hs1
  generalize ((w.alloc (.cells #[.int .i64 n, .int .i64 d, .slice p gs.length cap] 24)).alloc (.cells #[.int .i64 0, .int .i64 0] 26)) = w1 at *
  have z_m := World.block_lt_of_cell? _ _ c_m_0
  have z_r := World.block_lt_of_cell? _ _ c_r_0
  have HI1 := Lib.hid (HI.out.later hB1)
  clear HI
  go_wp2_with fail
  refine (mright_is HI1.out h).mono ?_
  rintro e w2 ⟨rfl, hb2⟩
  have hs2 := hb2
  replace c_m_0 := cell_later hs2 c_m_0
  replace c_m_1 := cell_later hs2 c_m_1
  replace c_m_2 := cell_later hs2 c_m_2
  replace f_r_0 := frozen_later hs2 c_r_0 f_r_0
  replace c_r_0 := cell_later hs2 c_r_0
  replace f_r_1 := frozen_later hs2 c_r_1 f_r_1
  replace c_r_1 := cell_later hs2 c_r_1
  clear z_m
  have z_m := World.block_lt_of_cell? _ _ c_m_0
  clear z_r
  have z_r := World.block_lt_of_cell? _ _ c_r_0
  have hB2 := below_two hB1 hs2
  clear hB1 hs2
  go_wp2_with fail
  refine (ofP_any (n := n) (d := d) (by omega) (by omega) (by omega) (by omega) _).mono ?_
  rintro e w3 ⟨rfl, hb3⟩
  have hs3 := hb3
  replace c_m_0 := cell_later hs3 c_m_0
  replace c_m_1 := cell_later hs3 c_m_1
  replace c_m_2 := cell_later hs3 c_m_2
  replace f_r_0 := frozen_later hs3 c_r_0 f_r_0
  replace c_r_0 := cell_later hs3 c_r_0
  replace f_r_1 := frozen_later hs3 c_r_1 f_r_1
  replace c_r_1 := cell_later hs3 c_r_1
  clear z_m
  have z_m := World.block_lt_of_cell? _ _ c_m_0
  clear z_r
  have z_r := World.block_lt_of_cell? _ _ c_r_0
  have hB3 := below_two hB2 hs3
  clear hB2 hs3
  obtain ⟨X, HX⟩ : ∃ X, Hid (Met.of n d = X) := ⟨_, Lib.hid rfl⟩
  rw [HX.out]
  obtain ⟨x, y⟩ := X
  dsimp only
  obtain ⟨m0, m1⟩ := put2_of (x := .int .i64 x) (y := .int .i64 y) c_r_0 c_r_1
  go_wp2
  exact bodyPost_ret (v := rvp (x, y) 0) (by simp [results, Try.results12, go_sem, m0, m1]) rfl ⟨by rw [HX.out], put2_below hB3 (by omega)⟩

theorem mlength_any (n d : Int) (v : Value) (gs : List Int) (w : World) (hI : Ints w v gs) :
    Calls Try.prog 12 #[mt n d v] w fun ed w' => ed = .returned (rvp (lenP n d gs) (lenE n d gs)) ∧ Below w.heap.size w w' := by
  unfold lenP lenE
  cases h : Met.right n d gs
  · exact mlength_0 n d v gs w hI h
  · exact mlength_1 n d v gs w hI h

set_option maxRecDepth 100000 in
set_option maxHeartbeats 4000000 in
theorem together_any (n d : Int) (v : Value) (w : World) (n1 : 1 ≤ n) (n32 : n ≤ 32) (hv : ∃ p l c, v = .slice p l c) :
    Calls Try.prog 65 #[mt n d v] w fun ed w' => ed = .returned (.int .i64 (Met.each n d)) ∧ Below w.heap.size w w' := by
  obtain ⟨p, l, c, rfl⟩ := hv
  by_cases h1 : 8 ≤ d
  · by_cases h2 : 3 < n
    · by_cases h3 : n % 3 = 0
      · have he : Met.each n d = 3 := by unfold Met.each; rw [if_pos ⟨h1, h2, h3⟩]
        rw [he]
        have h4 : (n % 3 == 0) = true := beq_iff_eq.2 h3
        clear he h3
        go_enter Try.func65, Try.ntmps65
        go_wp2
        go_ret
        exact ⟨rfl, (by repeat (first | exact Below.refl _ _ | refine below_drewN ?_ _ | refine Below.drew ?_ | refine Below.setCell ?_ (by simp <;> omega) _ | refine Below.alloc ?_ (by simp <;> omega) _))⟩
      · have he : Met.each n d = 1 := by unfold Met.each; rw [if_neg (fun x => h3 x.2.2)]
        rw [he]
        have h4 : (n % 3 == 0) = false := beq_eq_false_iff_ne.2 h3
        clear he h3
        go_enter Try.func65, Try.ntmps65
        go_wp2
        go_ret
        exact ⟨rfl, (by repeat (first | exact Below.refl _ _ | refine below_drewN ?_ _ | refine Below.drew ?_ | refine Below.setCell ?_ (by simp <;> omega) _ | refine Below.alloc ?_ (by simp <;> omega) _))⟩
    · have he : Met.each n d = 1 := by unfold Met.each; rw [if_neg (fun x => h2 x.2.1)]
      rw [he]
      clear he
      go_enter Try.func65, Try.ntmps65
      go_wp2
      go_ret
      exact ⟨rfl, (by repeat (first | exact Below.refl _ _ | refine below_drewN ?_ _ | refine Below.drew ?_ | refine Below.setCell ?_ (by simp <;> omega) _ | refine Below.alloc ?_ (by simp <;> omega) _))⟩
  · have he : Met.each n d = 1 := by unfold Met.each; rw [if_neg (fun x => h1 x.1)]
    rw [he]
    clear he
    go_enter Try.func65, Try.ntmps65
    go_wp2
    go_ret
    exact ⟨rfl, (by repeat (first | exact Below.refl _ _ | refine below_drewN ?_ _ | refine Below.drew ?_ | refine Below.setCell ?_ (by simp <;> omega) _ | refine Below.alloc ?_ (by simp <;> omega) _))⟩

set_option maxRecDepth 100000 in
set_option maxHeartbeats 4000000 in
theorem groups_own (n₀ : Nat) (n d : Int) (v : Value) (gs : List Int) (w : World) (hI : IntsK n₀ w v gs) (h : gs.length ≠ 0) :
    Calls Try.prog 57 #[mt n d v] w fun ed w' => (∃ u, ed = .returned u ∧ IntsK n₀ w' u (Met.grp n d gs)) ∧ Below w.heap.size w w' := by
  rw [show Met.grp n d gs = gs by unfold Met.grp; rw [if_neg h]]
  obtain ⟨p, cap, rfl, hl, hc⟩ := hI
  have HI : Hid (IntsK n₀ w (.slice p gs.length cap) gs) := Lib.hid ⟨p, cap, rfl, hl, hc⟩
  have h0 : (0 : Int) < (gs.length : Int) := by omega
  clear hl hc
  have hB0 : Below w.heap.size w w := Below.refl _ _
  go_enter Try.func57, Try.ntmps57
  go_wp2_with fail
  have hs1 : Below w.heap.size w (w.alloc (.cells #[.int .i64 n, .int .i64 d, .slice p gs.length cap] 24)) := by repeat (first | exact Below.refl _ _ | refine Below.alloc ?_ (by simp <;> omega) _)
  have c_m_0 : (w.alloc (.cells #[.int .i64 n, .int .i64 d, .slice p gs.length cap] 24)).cell? ⟨w.heap.size, 0, none⟩ = some (.int .i64 n) := by go_simp
  have c_m_1 : (w.alloc (.cells #[.int .i64 n, .int .i64 d, .slice p gs.length cap] 24)).cell? ⟨w.heap.size, 1, none⟩ = some (.int .i64 d) := by go_simp
  have c_m_2 : (w.alloc (.cells #[.int .i64 n, .int .i64 d, .slice p gs.length cap] 24)).cell? ⟨w.heap.size, 2, none⟩ = some (.slice p gs.length cap) := by go_simp
  have hB1 := below_two hB0 hs1
  clear hB0 hs1
  generalize (w.alloc (.cells #[.int .i64 n, .int .i64 d, .slice p gs.length cap] 24)) = w1 at *
  have z_m := World.block_lt_of_cell? _ _ c_m_0
  have HI1 := Lib.hid (HI.out.later hB1)
  clear HI
  go_wp2
  go_ret
  exact ⟨⟨_, rfl, HI1.out⟩, hB1⟩

def GroRel (e : Int) (K : Nat) (w : World) (l i : Value) (wr : World) : Prop := ∃ k : Nat, k ≤ K ∧ i = .int .i64 (k : Int) ∧ wr.ownsRow (w.heap.size + 1) 3 1 l k (List.replicate k (.int .i64 e)) ∧ Below w.heap.size w wr ∧ w.heap.size < wr.heap.size
theorem cell_one (w : World) (t : TypeId) (x : Value) {n : Nat} (hn : w.heap.size = n) : ∀ (jj : Nat) (u : Value), [x][jj]? = some u → (w.alloc (.cells #[x] t)).cell? (Addr.add ⟨n, 0, none⟩ jj) = some u := by
  subst hn
  intro jj u hu
  rcases jj with _ | jj
  · simp at hu; subst hu; simp [Addr.add]
  · simp at hu

set_option maxRecDepth 100000 in
set_option maxHeartbeats 4000000 in
theorem groups_new (n₀ : Nat) (n d e : Int) (K : Nat) (v : Value) (w : World) (n1 : 1 ≤ n) (n32 : n ≤ 32) (he1 : e = 1 ∨ e = 3) (HE : Hid (Met.each n d = e)) (hK : ((K : Nat) : Int) = n / e) (HK : K ≤ 32) (hv : ∃ p cap, v = .slice p 0 cap) :
    Calls Try.prog 57 #[mt n d v] w fun ed w' => (∃ u, ed = .returned u ∧ IntsK n₀ w' u (List.replicate K e)) ∧ Below w.heap.size w w' := by
  obtain ⟨p, cap, rfl⟩ := hv
  obtain ⟨i0, hi, hz0, hz1, hz2⟩ := info_parts infoI
  have hB0 : Below w.heap.size w w := Below.refl _ _
  go_enter Try.func57, Try.ntmps57
  go_wp2_with fail
  refine (together_any n d _ _ n1 n32 ⟨_, _, _, rfl⟩).mono ?_
  rintro e w1 ⟨rfl, hb1⟩
  have hs1 : Below w.heap.size w w1 := Below.trans (by repeat (first | exact Below.refl _ _ | refine Below.alloc ?_ (by simp <;> omega) _)) (hb1.mono (by simp <;> omega))
  have c_m_0 : w1.cell? ⟨w.heap.size, 0, none⟩ = some (.int .i64 n) := (hb1.cell (by simp <;> omega)).trans (by go_simp)
  have c_m_1 : w1.cell? ⟨w.heap.size, 1, none⟩ = some (.int .i64 d) := (hb1.cell (by simp <;> omega)).trans (by go_simp)
  have c_m_2 : w1.cell? ⟨w.heap.size, 2, none⟩ = some (.slice p 0 cap) := (hb1.cell (by simp <;> omega)).trans (by go_simp)
  have z_m := World.block_lt_of_cell? _ _ c_m_0
  have hB1 := below_two hB0 hs1
  clear hB0 hs1 hb1
  rw [HE.out]
  have hdv : IntKind.i64.wrap (n / e) = (K : Int) := by rw [IntWalk.i64_in _ (by omega)]; omega
  have hdw : n / e = (K : Int) := by omega
  have hz : (e == 0) = false := beq_eq_false_iff_ne.2 (by omega)
  have he0 : 0 < e := by omega
  have HEE := Lib.hid he1
  clear he1 hK
  have hown0 := World.ownsRow_nil w1 (w.heap.size + 1) 3 1
  skip
  go_wp2_with fail
  rw [hdw]
  go_loopw [4, 17] (fun l i wr => GroRel e K w l i wr) (fun _ i _ => K - (intOf i).toNat)
  case atStart => exact ⟨0, Nat.zero_le _, rfl, hown0, hB1, z_m⟩
  case round =>
    clear hown0 hB1 c_m_0 c_m_1 c_m_2 z_m
    obtain ⟨k, hk, rfl, hown, hB, hsz⟩ := hrel
    have HOW := Lib.hid hown
    clear hown
    by_cases hlt : k < K
    · go_wp2_with (first
        | (at_builtin; refine wpList_append_own _ rfl _ _ 22 rfl (w.heap.size + 1) 3 i0 (.int .i64 0) 1 8 Try.underlying22 hi hz0 hz1 hz2 rfl (by decide) _ _ _ rfl (HOW.out.alloc _) ⟨wr.heap.size, 0, none⟩ 1 1 [.int .i64 e] rfl rfl ?c1 ?c2 ?c3 ?c4 ?c5 ?_)
        | fail)
      case c1 => exact cell_one _ _ _ rfl
      case c2 => intro u hu; simp at hu; subst hu; rfl
      case c3 => unfold maxLen; omega
      case c4 => omega
      case c5 => simp; omega
      intro v' w5 hown5 hgrow _
      have hb5 : Below (w.heap.size + 1) (wr.alloc (.cells #[.int .i64 e] 3)) w5 := (Below.refl _ _).grown hgrow (by simp; omega) (fun k hk => (HOW.out.lt k hk).1)
      have hB5 : Below w.heap.size w w5 := (alloc_below hB).trans (hb5.mono (by omega))
      have hs5 := hb5.size
      simp only [World.size_alloc] at hs5
      have HOWN : Hid (w5.ownsRow (w.heap.size + 1) 3 1 v' (k + 1) (List.replicate (k + 1) (.int .i64 e))) := Lib.hid (by rw [List.replicate_succ']; exact hown5)
      have HB5 := Lib.hid hB5
      clear hb5 hown5 hgrow hB5 HOW hB
      go_wp2
      go_roundw
      case rel => exact ⟨k + 1, by omega, by go_num, HOWN.out, HB5.out, by omega⟩
      case measure => simp [intOf]; omega
    · obtain rfl : k = K := by omega
      go_wp2
      go_ret
      exact ⟨⟨_, rfl, intsK_of (by simp; omega) (by rw [List.length_replicate, List.map_replicate]; exact HOW.out)⟩, hB⟩
end Go.Proofs.Ytlodhfdikglgoaa
