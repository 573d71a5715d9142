/-
  The contracts of the reference's Step, Sign, Right, Tonic, Alter and Move.
-/
import Derived.Test.YtahcbgngdpjhkaaDoorKeyA
namespace Go.Proofs.YtahcbgngdpjhkaaDoor
open Go.RowKit

namespace Key
theorem upto_none {α : Type} {f : Nat → α} {q : α → Bool} {k : Nat} (h : (upto f k).find? q = none) (hq : q (f k) = false) : (upto f (k + 1)).find? q = none := by
  rw [upto_succ, List.find?_append, h]; simp [hq]
theorem upto_prefix {α : Type} (f : Nat → α) {k n : Nat} (h : k ≤ n) : upto f k <+: upto f n := by
  obtain ⟨d, rfl⟩ := Nat.exists_eq_add_of_le h
  clear h
  induction d with
  | zero => exact List.prefix_refl _
  | succ d ih => rw [← Nat.add_assoc, upto_succ]; exact ih.trans (List.prefix_append _ _)
theorem upto_found {α : Type} {f : Nat → α} {q : α → Bool} {k n : Nat} (hk : k < n) (h : (upto f k).find? q = none) (hq : q (f k) = true) : (upto f n).find? q = some (f k) := by
  obtain ⟨t, ht⟩ := upto_prefix f (show k + 1 ≤ n from hk)
  rw [← ht, upto_succ, List.append_assoc, List.find?_append, h]; simp [hq]
theorem sgL_next {a s : Int} {k : Nat} (h : sgL a k s = none) (hq : ¬ st (a + (k : Int)) = s) : sgL a (k + 1) s = none := upto_none h (by simpa using hq)
theorem sgL_found {a s : Int} {k n : Nat} (hk : k < n) (h : sgL a k s = none) (hq : st (a + (k : Int)) = s) : sgL a n s = some (a + (k : Int)) := upto_found hk h (by simpa using hq)
end Key

set_option maxHeartbeats 1000000 in
theorem refStep_any (p : Int) (w : World) (h0 : -1000 ≤ p) (h1 : p ≤ 1000) :
    Calls Tryd.prog 37 #[.int .i64 p] w fun e w' => e = .returned (.int .i64 (Key.st p)) ∧ w = w' := by
  have B1 := Int.mul_tdiv_add_tmod (4 * p) 7
  have B2 := Int.tmod_lt_of_pos (4 * p) (show (0 : Int) < 7 by decide)
  have B3 := Int.lt_tmod_of_pos (4 * p) (show (0 : Int) < 7 by decide)
  by_cases hr : (4 * p).tmod 7 < 0
  · have E : Hid (wrap64 ((4 * p).tmod 7 + 7) = Key.st p) := Lib.hid (by unfold Key.st; have e : wrap64 ((4 * p).tmod 7 + 7) = (4 * p).tmod 7 + 7 := (by unfold wrap64; omega); rw [e]; omega)
    clear B1 B2 B3
    go_enter Tryd.func37, Tryd.ntmps37
    go_wp2
    go_ret
    exact ⟨ret_int E.out, rfl⟩
  · have E : Hid ((4 * p).tmod 7 = Key.st p) := Lib.hid (by unfold Key.st; omega)
    clear B1 B2 B3
    go_enter Tryd.func37, Tryd.ntmps37
    go_wp2
    go_ret
    exact ⟨ret_int E.out, rfl⟩

set_option maxHeartbeats 1000000 in
theorem refSign_any (p : Int) (w : World) (h0 : -1000 ≤ p) (h1 : p ≤ 1000) :
    Calls Tryd.prog 39 #[.int .i64 p] w fun e w' => e = .returned (.int .i64 (Key.al p)) ∧ w = w' := by
  obtain ⟨x, HX⟩ : ∃ x, Hid (p = x) := ⟨_, Lib.hid rfl⟩
  go_enter Tryd.func39, Tryd.ntmps39
  go_wp2
  go_loop [0, 3] (fun a b => ∃ q n : Int, a = .int .i64 q ∧ b = .int .i64 n ∧ Hid (q + 7 * n = x) ∧ -1000 ≤ q ∧ q ≤ 1000 ∧ 0 ≤ n ∧ n ≤ 1000) (fun a _ => (intOf a + 1000).toNat)
  case atStart => exact ⟨p, 0, rfl, rfl, Lib.hid (by have := HX.out; omega), h0, h1, by omega, by omega⟩
  case round =>
    obtain ⟨q, n, rfl, rfl, HQ, q0, q1, n0, n1⟩ := hrel
    by_cases hq : 5 < q
    · have hn : n ≤ 200 := by have := HQ.out; have := HX.out; omega
      go_wp2
      go_round
      case rel => exact ⟨q - 7, n + 1, rfl, rfl, Lib.hid (by have := HQ.out; omega), by omega, by omega, by omega, by omega⟩
      case measure => simp [intOf]; omega
    · have hn : n ≤ 300 := by have := HQ.out; have := HX.out; omega
      go_wp2
      go_loop [0, 3] (fun a b => ∃ q n : Int, a = .int .i64 q ∧ b = .int .i64 n ∧ Hid (q + 7 * n = x) ∧ -1000 ≤ q ∧ q ≤ 5 ∧ -1000 ≤ n ∧ n ≤ 1000) (fun a _ => (1000 - intOf a).toNat)
      case atStart => exact ⟨q, n, rfl, rfl, HQ, q0, by omega, by omega, by omega⟩
      case round =>
        obtain ⟨q, n, rfl, rfl, HQ, q0, q1, n0, n1⟩ := hrel
        by_cases hq : q < -1
        · have hn : -500 ≤ n := by have := HQ.out; have := HX.out; omega
          go_wp2
          go_round
          case rel => exact ⟨q + 7, n - 1, rfl, rfl, Lib.hid (by have := HQ.out; omega), by omega, by omega, by omega, by omega⟩
          case measure => simp [intOf]; omega
        · go_wp2
          go_ret
          exact ⟨ret_int (by have := HQ.out; have := HX.out; unfold Key.al; omega), rfl⟩

set_option maxHeartbeats 1000000 in
theorem krefRight_any (f : Int) (m : Bool) (w : World) :
    Calls Tryd.prog 21 #[ky f m] w fun e w' => e = .returned (.bool (Key.okF f)) ∧ Below w.heap.size w w' := by
  have HO : Hid (Key.okF f = decide (-7 ≤ f ∧ f ≤ 7)) := Lib.hid rfl
  generalize Key.okF f = b at *
  by_cases h1 : -7 ≤ f
  · by_cases h2 : f ≤ 7
    · obtain rfl : b = true := HO.out.trans (decide_eq_true ⟨h1, h2⟩)
      go_enter Tryd.func21, Tryd.ntmps21
      go_wp2
      go_ret
      exact ⟨rfl, (by repeat (first | exact Below.refl _ _ | refine below_drewN ?_ _ | refine Below.drew ?_ | refine Below.setCell ?_ (by simp <;> omega) _ | refine Below.alloc ?_ (by simp <;> omega) _))⟩
    · obtain rfl : b = false := HO.out.trans (decide_eq_false (fun h => h2 h.2))
      go_enter Tryd.func21, Tryd.ntmps21
      go_wp2
      go_ret
      exact ⟨rfl, (by repeat (first | exact Below.refl _ _ | refine below_drewN ?_ _ | refine Below.drew ?_ | refine Below.setCell ?_ (by simp <;> omega) _ | refine Below.alloc ?_ (by simp <;> omega) _))⟩
  · obtain rfl : b = false := HO.out.trans (decide_eq_false (fun h => h1 h.1))
    go_enter Tryd.func21, Tryd.ntmps21
    go_wp2
    go_ret
    exact ⟨rfl, (by repeat (first | exact Below.refl _ _ | refine below_drewN ?_ _ | refine Below.drew ?_ | refine Below.setCell ?_ (by simp <;> omega) _ | refine Below.alloc ?_ (by simp <;> omega) _))⟩
theorem krefRight_yes {f : Int} (m : Bool) (w : World) (h : Key.okF f = true) : Calls Tryd.prog 21 #[ky f m] w fun e w' => e = .returned (.bool true) ∧ Below w.heap.size w w' := by
  have := krefRight_any f m w
  rw [h] at this
  exact this
theorem krefRight_no {f : Int} (m : Bool) (w : World) (h : Key.okF f = false) : Calls Tryd.prog 21 #[ky f m] w fun e w' => e = .returned (.bool false) ∧ Below w.heap.size w w' := by
  have := krefRight_any f m w
  rw [h] at this
  exact this

set_option maxHeartbeats 1000000 in
theorem refTonic_any (f : Int) (m : Bool) (w : World) (h0 : -7 ≤ f) (h7 : f ≤ 7) :
    Calls Tryd.prog 38 #[ky f m] w fun e w' => e = .returned (.int .i64 (Key.tp f m)) ∧ Below w.heap.size w w' := by
  cases m
  · go_enter Tryd.func38, Tryd.ntmps38
    go_wp2
    go_ret
    exact ⟨rfl, (by repeat (first | exact Below.refl _ _ | refine below_drewN ?_ _ | refine Below.drew ?_ | refine Below.setCell ?_ (by simp <;> omega) _ | refine Below.alloc ?_ (by simp <;> omega) _))⟩
  · go_enter Tryd.func38, Tryd.ntmps38
    go_wp2
    go_ret
    exact ⟨rfl, (by repeat (first | exact Below.refl _ _ | refine below_drewN ?_ _ | refine Below.drew ?_ | refine Below.setCell ?_ (by simp <;> omega) _ | refine Below.alloc ?_ (by simp <;> omega) _))⟩

set_option maxRecDepth 100000 in
set_option maxHeartbeats 4000000 in
theorem refAlter_no (f : Int) (m : Bool) (s : Int) (w : World) (h : Key.okF f = false) :
    Calls Tryd.prog 23 #[ky f m, .int .i64 s] w fun e w' => e = .returned (.tuple #[.int .i64 0, .int .i64 30]) ∧ Below w.heap.size w w' := by
  have hB0 : Below w.heap.size w w := Below.refl _ _
  go_enter Tryd.func23, Tryd.ntmps23
  go_wp2_with fail
  refine (krefRight_no m _ h).mono ?_
  rintro e w1 ⟨rfl, hb1⟩
  have hs1 : Below w.heap.size w w1 := Below.trans (by repeat (first | exact Below.refl _ _ | refine Below.alloc ?_ (by simp <;> omega) _)) (hb1.mono (by simp <;> omega))
  have c_k_0 : w1.cell? ⟨w.heap.size, 0, none⟩ = some (.int .i64 f) := (hb1.cell (by simp <;> omega)).trans (by go_simp)
  have c_k_1 : w1.cell? ⟨w.heap.size, 1, none⟩ = some (.bool m) := (hb1.cell (by simp <;> omega)).trans (by go_simp)
  have z_k := World.block_lt_of_cell? _ _ c_k_0
  have hB1 := below_two hB0 hs1
  clear hB0 hs1 hb1
  go_wp2
  go_ret2
  exact ⟨rfl, hB1⟩

set_option maxRecDepth 100000 in
set_option maxHeartbeats 4000000 in
theorem refAlter_no1 (f : Int) (m : Bool) (s : Int) (w : World) (h : Key.okF f = true) (hs : s < 0) :
    Calls Tryd.prog 23 #[ky f m, .int .i64 s] w fun e w' => e = .returned (.tuple #[.int .i64 0, .int .i64 2]) ∧ Below w.heap.size w w' := by
  have hB0 : Below w.heap.size w w := Below.refl _ _
  go_enter Tryd.func23, Tryd.ntmps23
  go_wp2_with fail
  refine (krefRight_yes m _ h).mono ?_
  rintro e w1 ⟨rfl, hb1⟩
  have hs1 : Below w.heap.size w w1 := Below.trans (by repeat (first | exact Below.refl _ _ | refine Below.alloc ?_ (by simp <;> omega) _)) (hb1.mono (by simp <;> omega))
  have c_k_0 : w1.cell? ⟨w.heap.size, 0, none⟩ = some (.int .i64 f) := (hb1.cell (by simp <;> omega)).trans (by go_simp)
  have c_k_1 : w1.cell? ⟨w.heap.size, 1, none⟩ = some (.bool m) := (hb1.cell (by simp <;> omega)).trans (by go_simp)
  have z_k := World.block_lt_of_cell? _ _ c_k_0
  have hB1 := below_two hB0 hs1
  clear hB0 hs1 hb1
  go_wp2
  go_ret2
  exact ⟨rfl, hB1⟩

set_option maxRecDepth 100000 in
set_option maxHeartbeats 4000000 in
theorem refAlter_no2 (f : Int) (m : Bool) (s : Int) (w : World) (h : Key.okF f = true) (hs0 : ¬ s < 0) (hs : 6 < s) :
    Calls Tryd.prog 23 #[ky f m, .int .i64 s] w fun e w' => e = .returned (.tuple #[.int .i64 0, .int .i64 2]) ∧ Below w.heap.size w w' := by
  have hB0 : Below w.heap.size w w := Below.refl _ _
  go_enter Tryd.func23, Tryd.ntmps23
  go_wp2_with fail
  refine (krefRight_yes m _ h).mono ?_
  rintro e w1 ⟨rfl, hb1⟩
  have hs1 : Below w.heap.size w w1 := Below.trans (by repeat (first | exact Below.refl _ _ | refine Below.alloc ?_ (by simp <;> omega) _)) (hb1.mono (by simp <;> omega))
  have c_k_0 : w1.cell? ⟨w.heap.size, 0, none⟩ = some (.int .i64 f) := (hb1.cell (by simp <;> omega)).trans (by go_simp)
  have c_k_1 : w1.cell? ⟨w.heap.size, 1, none⟩ = some (.bool m) := (hb1.cell (by simp <;> omega)).trans (by go_simp)
  have z_k := World.block_lt_of_cell? _ _ c_k_0
  have hB1 := below_two hB0 hs1
  clear hB0 hs1 hb1
  go_wp2
  go_ret2
  exact ⟨rfl, hB1⟩

set_option maxRecDepth 100000 in
set_option maxHeartbeats 4000000 in
theorem refAlter_yes (f : Int) (m : Bool) (s : Int) (w : World) (h0 : -7 ≤ f) (h7 : f ≤ 7) (s0 : 0 ≤ s) (s6 : s ≤ 6) :
    Calls Tryd.prog 23 #[ky f m, .int .i64 s] w fun e w' => e = .returned (.tuple #[.int .i64 (Key.sg f s), .int .i64 0]) ∧ Below w.heap.size w w' := by
  have hB0 : Below w.heap.size w w := Below.refl _ _
  go_enter Tryd.func23, Tryd.ntmps23
  go_wp2_with fail
  refine (krefRight_yes m _ (Key.okF_true h0 h7)).mono ?_
  rintro e w1 ⟨rfl, hb1⟩
  have hs1 : Below w.heap.size w w1 := Below.trans (by repeat (first | exact Below.refl _ _ | refine Below.alloc ?_ (by simp <;> omega) _)) (hb1.mono (by simp <;> omega))
  have c_k_0 : w1.cell? ⟨w.heap.size, 0, none⟩ = some (.int .i64 f) := (hb1.cell (by simp <;> omega)).trans (by go_simp)
  have c_k_1 : w1.cell? ⟨w.heap.size, 1, none⟩ = some (.bool m) := (hb1.cell (by simp <;> omega)).trans (by go_simp)
  have z_k := World.block_lt_of_cell? _ _ c_k_0
  have hB1 := below_two hB0 hs1
  clear hB0 hs1 hb1
  go_wp2
  go_loop [6] (fun a => ∃ k : Nat, ∃ p : Int, k ≤ 7 ∧ a = .int .i64 p ∧ Hid (f - 1 + (k : Int) = p) ∧ Hid (Key.sgL (f - 1) k s = none)) (fun a => (f + 6 - intOf a).toNat)
  case atStart => exact ⟨0, f - 1, by omega, rfl, Lib.hid (by simp), Lib.hid rfl⟩
  case round =>
    obtain ⟨k, p, hk, rfl, HP, HN⟩ := hrel
    have p0 : -8 ≤ p := by have := HP.out; omega
    have p1 : p ≤ f + 6 := by have := HP.out; omega
    by_cases hp : p ≤ f + 5
    · have hk7 : k < 7 := by have := HP.out; omega
      go_wp2_with fail
      refine (refStep_any p _ (by omega) (by omega)).mono ?_
      rintro e w2 ⟨rfl, rfl⟩
      have HK := Lib.hid hk7
      clear hk7
      by_cases hs : Key.st p = s
      · have HS := Lib.hid hs
        have hE : (Key.st p == s) = true := by simpa using hs
        clear hs
        go_wp2_with fail
        refine (refSign_any p _ (by omega) (by omega)).mono ?_
        rintro e w2 ⟨rfl, rfl⟩
        go_wp2
        go_ret2
        refine ⟨?_, hB1⟩
        have : Key.sg f s = Key.al p := by
          unfold Key.sg
          rw [Key.sgL_found HK.out HN.out (by rw [HP.out]; exact HS.out), HP.out]
          rfl
        rw [this]; rfl
      · have HS := Lib.hid hs
        have hE : (Key.st p == s) = false := by simpa using hs
        clear hs
        go_wp2
        go_round
        case rel => exact ⟨k + 1, p + 1, by have := HK.out; omega, rfl, Lib.hid (by have := HP.out; omega), Lib.hid (Key.sgL_next HN.out (by rw [HP.out]; exact HS.out))⟩
        case measure => simp [intOf]; omega
    · obtain rfl : k = 7 := by have := HP.out; omega
      go_wp2
      go_ret2
      refine ⟨?_, hB1⟩
      have : Key.sg f s = 0 := by
        unfold Key.sg
        rw [HN.out]
        rfl
      rw [this]; rfl

theorem refAlter_any (f : Int) (m : Bool) (s : Int) (w : World) :
    Calls Tryd.prog 23 #[ky f m, .int .i64 s] w fun e w' => e = .returned (.tuple #[.int .i64 (Key.alt f s), .int .i64 (Key.eKS f s)]) ∧ Below w.heap.size w w' := by
  unfold Key.alt Key.eKS
  cases hf : Key.okF f
  · exact refAlter_no f m s w hf
  · obtain ⟨h0, h7⟩ := (Key.okF_iff f).1 hf
    by_cases s0 : s < 0
    · rw [show decide (0 ≤ s ∧ s ≤ 6) = false from decide_eq_false (by omega)]
      exact refAlter_no1 f m s w hf s0
    · by_cases s6 : 6 < s
      · rw [show decide (0 ≤ s ∧ s ≤ 6) = false from decide_eq_false (by omega)]
        exact refAlter_no2 f m s w hf s0 s6
      · rw [show decide (0 ≤ s ∧ s ≤ 6) = true from decide_eq_true (by omega)]
        exact refAlter_yes f m s w h0 h7 (by omega) (by omega)
end Go.Proofs.YtahcbgngdpjhkaaDoor
