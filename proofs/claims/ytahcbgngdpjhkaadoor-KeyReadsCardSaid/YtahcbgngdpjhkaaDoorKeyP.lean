/-
  The contract of the reference's Read.
-/
import Derived.Test.YtahcbgngdpjhkaaDoorKeyO
import Derived.Test.YtahcbgngdpjhkaaDoorKeyJ
namespace Go.Proofs.YtahcbgngdpjhkaaDoor
open Go.RowKit

theorem flip_beq {T U : List UInt8} {b : Bool} (h : (T == U) = b) : (U == T) = b := by rw [← h, Bool.eq_iff_iff, beq_iff_eq, beq_iff_eq]; exact eq_comm

set_option maxRecDepth 100000 in
set_option maxHeartbeats 4000000 in
theorem refRead_any (s : ByteArray) (w : World) :
    Calls Tryd.prog 32 #[.string s] w fun e w' => e = .returned (rdV (Key.rdK s.toList)) ∧ Below w.heap.size w w' := by
  have hB0 : Below w.heap.size w w := Below.refl _ _
  go_enter Tryd.func32, Tryd.ntmps32
  go_wp2_with fail
  have hs1 : Below w.heap.size w (w.alloc (.cells #[.int .i64 0, .bool false] 23)) := by repeat (first | exact Below.refl _ _ | refine Below.alloc ?_ (by simp <;> omega) _)
  have c_r_0 : (w.alloc (.cells #[.int .i64 0, .bool false] 23)).cell? ⟨w.heap.size, 0, none⟩ = some (.int .i64 0) := by go_simp
  have f_r_0 : (w.alloc (.cells #[.int .i64 0, .bool false] 23)).frozen? ⟨w.heap.size, 0, none⟩ = false := by go_simp
  have c_r_1 : (w.alloc (.cells #[.int .i64 0, .bool false] 23)).cell? ⟨w.heap.size, 1, none⟩ = some (.bool false) := by go_simp
  have f_r_1 : (w.alloc (.cells #[.int .i64 0, .bool false] 23)).frozen? ⟨w.heap.size, 1, none⟩ = false := by go_simp
  have hB1 := below_two hB0 hs1
  clear hB0 hs1
  generalize (w.alloc (.cells #[.int .i64 0, .bool false] 23)) = w1 at *
  have z_r := World.block_lt_of_cell? _ _ c_r_0
  go_loopw [4] (fun a wr => ∃ k : Nat, ∃ p : Int, k ≤ 15 ∧ a = .int .i64 p ∧ Hid ((k : Int) - 7 = p) ∧ Hid ((Key.upto Key.keyAt (2 * k)).find? (isK s) = none) ∧ wr.cell? ⟨w.heap.size, 0, none⟩ = some (.int .i64 0) ∧ wr.cell? ⟨w.heap.size, 1, none⟩ = some (.bool false) ∧ wr.frozen? ⟨w.heap.size, 0, none⟩ = false ∧ wr.frozen? ⟨w.heap.size, 1, none⟩ = false ∧ Below w.heap.size w wr) (fun a _ => (8 - intOf a).toNat)
  case atStart => exact ⟨0, -7, by omega, rfl, Lib.hid (by omega), Lib.hid rfl, c_r_0, c_r_1, f_r_0, f_r_1, hB1⟩
  case round =>
    obtain ⟨k, p, hk, rfl, HP, HN, c0, c1, g0, g1, hB⟩ := hrel
    have p0 : -7 ≤ p := by have := HP.out; omega
    have p1 : p ≤ 8 := by have := HP.out; omega
    have z0 := World.block_lt_of_cell? _ _ c0
    by_cases hp : p ≤ 7
    · have HK : Hid (k < 15) := Lib.hid (by have := HP.out; omega)
      go_wp2_with fail
      refine (refText_any p false _).mono ?_
      rintro e w2 ⟨rfl, hb⟩
      replace g0 := frozen_later hb c0 g0
      replace g1 := frozen_later hb c1 g1
      replace c0 := cell_later hb c0
      replace c1 := cell_later hb c1
      replace hB := below_two hB hb
      clear hb z0
      have z0 := World.block_lt_of_cell? _ _ c0
      go_wp2_with fail
      refine (refText_any p true _).mono ?_
      rintro e w3 ⟨rfl, hb⟩
      replace g0 := frozen_later hb c0 g0
      replace g1 := frozen_later hb c1 g1
      replace c0 := cell_later hb c0
      replace c1 := cell_later hb c1
      replace hB := below_two hB hb
      clear hb z0
      have z0 := World.block_lt_of_cell? _ _ c0
      have e1 : Key.keyAt (2 * k) = (p, false) := by rw [keyAt_even, HP.out]
      have e2 : Key.keyAt (2 * k + 1) = (p, true) := by rw [keyAt_odd, HP.out]
      have HE := Lib.hid (And.intro e1 e2)
      clear e1 e2
      cases hs : isK s (p, false) with
      | true =>
        have h1 : (s.toList == Key.txE p false) = true := flip_beq hs
        have HS := Lib.hid hs
        clear hs
        generalize Key.txE p false = T at *
        obtain ⟨m0, m1⟩ := put2_of (x := .int .i64 p) (y := .bool false) c0 c1
        go_wp2
        have hv : Key.rdK s.toList = some (p, false) := by
          rw [← read_find, ← HE.out.1]
          exact Key.upto_found (k := 2 * k) (by have := HK.out; omega) HN.out (by rw [HE.out.1]; exact HS.out)
        rw [hv]
        exact bodyPost_ret (v := .tuple #[.agg #[.int .i64 p, .bool false], .int .i64 0]) (by simp [results, Tryd.results32, go_sem, m0, m1]) rfl ⟨rfl, put2_below hB (by omega)⟩
      | false =>
        have h1 : (s.toList == Key.txE p false) = false := flip_beq hs
        have HS := Lib.hid hs
        clear hs
        generalize Key.txE p false = T at *
        cases hs : isK s (p, true) with
        | true =>
          have h2 : (s.toList == Key.txE p true) = true := flip_beq hs
          have HS2 := Lib.hid hs
          clear hs
          generalize Key.txE p true = T2 at *
          obtain ⟨m0, m1⟩ := put2_of (x := .int .i64 p) (y := .bool true) c0 c1
          go_wp2
          have hv : Key.rdK s.toList = some (p, true) := by
            rw [← read_find, ← HE.out.2]
            exact Key.upto_found (k := 2 * k + 1) (by have := HK.out; omega) (Key.upto_none HN.out (by rw [HE.out.1]; exact HS.out)) (by rw [HE.out.2]; exact HS2.out)
          rw [hv]
          exact bodyPost_ret (v := .tuple #[.agg #[.int .i64 p, .bool true], .int .i64 0]) (by simp [results, Tryd.results32, go_sem, m0, m1]) rfl ⟨rfl, put2_below hB (by omega)⟩
        | false =>
          have h2 : (s.toList == Key.txE p true) = false := flip_beq hs
          have HS2 := Lib.hid hs
          clear hs
          generalize Key.txE p true = T2 at *
          go_wp2
          go_roundw
          case rel => exact ⟨k + 1, p + 1, by have := HK.out; omega, rfl, Lib.hid (by have := HP.out; omega), Lib.hid (Key.upto_none (k := 2 * k + 1) (Key.upto_none HN.out (by rw [HE.out.1]; exact HS.out)) (by rw [HE.out.2]; exact HS2.out)), c0, c1, g0, g1, hB⟩
          case measure => simp [intOf]; omega
    · obtain rfl : k = 15 := by have := HP.out; omega
      obtain ⟨m0, m1⟩ := put2_of (x := .int .i64 0) (y := .bool false) c0 c1
      go_wp2
      have hv : Key.rdK s.toList = none := by rw [← read_find]; exact HN.out
      rw [hv]
      exact bodyPost_ret (v := .tuple #[.agg #[.int .i64 0, .bool false], .int .i64 30]) (by simp [results, Tryd.results32, go_sem, m0, m1]) rfl ⟨rfl, put2_below hB (by omega)⟩
end Go.Proofs.YtahcbgngdpjhkaaDoor
