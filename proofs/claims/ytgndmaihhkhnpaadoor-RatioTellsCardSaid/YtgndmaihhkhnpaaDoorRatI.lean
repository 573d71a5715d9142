/-
  The contract of ratio.Read.
-/
import Derived.Test.YtgndmaihhkhnpaaDoorRatH
namespace Go.Proofs.YtgndmaihhkhnpaaDoor
open Go.RowKit

/-- What Atoi answers, where it answers a number. -/
theorem atoi_ok (s : ByteArray) (hs : s.size ≤ 1000) (v : Int) (h : Lib.atoiAll s.data.toList = .ok v) (w : World) :
    Calls Tryd.prog 32 #[.string s] w fun e w' => e = .returned (.tuple #[.int .i64 v, .nilIface]) ∧ Below w.heap.size w w' :=
  (Tryd.strconv_Atoi_ok s (by omega) v h w).mono fun _ _ ⟨he, hw⟩ => ⟨he, by
    rcases hw with hw | ⟨t, hw⟩
    · rw [hw]; exact Below.refl _ _
    · rw [hw]; exact Lib.bytesWorld_below _ _ _⟩

def AtoiBad (w : World) (e : Ending) (w' : World) : Prop := ∃ v N, e = .returned (.tuple #[.int .i64 v, .iface 67 (.pointer (some ⟨N, 0, none⟩))]) ∧ Below w.heap.size w w'
theorem atoi_bad (s : ByteArray) (hs : s.size ≤ 1000) (h : ∀ v, Lib.atoiAll s.data.toList ≠ .ok v) (w : World) (hR : Ready w) :
    Calls Tryd.prog 32 #[.string s] w (AtoiBad w) := by
  cases ha : Lib.atoiAll s.data.toList
  · exact absurd ha (h _)
  · obtain ⟨te, pe, hc⟩ := hR.syn
    exact (Any.strconv_Atoi_syntax Tryd.laysC172 s (by omega) ha _ w hc (Or.inr ⟨te, pe, rfl⟩)).mono fun _ _ ⟨N, he, _, _, hb⟩ => ⟨_, N, he, hb⟩
  · obtain ⟨te, pe, hc⟩ := hR.rng
    exact (Any.strconv_Atoi_range Tryd.laysC172 s (by omega) ha _ w hc (Or.inr ⟨te, pe, rfl⟩)).mono fun _ _ ⟨N, he, _, _, hb⟩ => ⟨_, N, he, hb⟩

/-- The two halves of a text. -/
def lower (b : List UInt8) (two : Bool) : List UInt8 := if two then b else [49]
/-- What Read answers, of the two halves. -/
def rdOf (x y : Lib.NumEnd Int) (l : List UInt8) : Option (Int × Int) :=
  match x, y with
  | .ok n, .ok d => if Rat.right n d && (txt n d == l) then some (n, d) else none
  | _, _ => none
def rd (l : List UInt8) : Option (Int × Int) := rdOf (Lib.atoiAll (Lib.cut l [47]).1) (Lib.atoiAll (lower (Lib.cut l [47]).2.1 (Lib.cut l [47]).2.2)) l
theorem rdOf_right {n d : Int} {l : List UInt8} (h : Rat.right n d = false) : rdOf (.ok n) (.ok d) l = none := by simp [rdOf, h]
theorem rdOf_text {n d : Int} {l : List UInt8} (h : (txt n d == l) = false) : rdOf (.ok n) (.ok d) l = none := by simp [rdOf, h]
theorem rdOf_yes {n d : Int} {l : List UInt8} (h : Rat.right n d = true) (h' : (txt n d == l) = true) : rdOf (.ok n) (.ok d) l = some (n, d) := by simp only [rdOf, h, h']; rfl
def rdV (o : Option (Int × Int)) : Value := match o with | some (n, d) => rv n d 0 | none => rv 0 0 12

theorem cut_le (l : List UInt8) : (Lib.cut l [47]).1.length ≤ l.length ∧ (Lib.cut l [47]).2.1.length ≤ l.length := by
  unfold Lib.cut
  split
  · simp; omega
  · simp

theorem atoi_i64 {l : List UInt8} {v : Int} (h : Lib.atoiAll l = .ok v) : Rat.I64 v := Lib.atoiAll_bounds h

theorem atoi_49 : Lib.atoiAll (ByteArray.mk #[49]).data.toList = .ok 1 := by decide
theorem sz (l : List UInt8) : (⟨l.toArray⟩ : ByteArray).size = l.length := by simp [ByteArray.size]

set_option maxRecDepth 100000 in
set_option maxHeartbeats 2000000 in
theorem read_two_A1 (s : ByteArray) (w : World) (hR : Ready w) (hs : s.size ≤ 1000) (t b : List UInt8) (ht : t.length ≤ 1000) (hb : b.length ≤ 1000) (HC : Hid (Lib.cut s.data.toList [47] = (t, b, true))) (d : Int) (hx : ∀ v, Lib.atoiAll t ≠ .ok v) (hy : Lib.atoiAll b = .ok d) :
    Calls Tryd.prog 14 #[.string s] w fun e w' => e = .returned (rv 0 0 12) ∧ Below w.heap.size w w' := by
  obtain ⟨m, hm⟩ := hR.mx
  go_enter Tryd.func14, Tryd.ntmps14
  go_wp2_with fail
  have hR0 : Ready (w.alloc (.cells #[.int .i64 0, .int .i64 0] 23)) := hR.below ((Below.refl _ _).alloc (Nat.le_refl _) _)
  have hm0 := cell_later ((Below.refl _ _).alloc (Nat.le_refl _) (.cells #[.int .i64 0, .int .i64 0] 23)) hm
  refine (Tryd.strings_Cut _ _ m _ (by omega) hm0).mono ?_
  rintro e w1 ⟨rfl, k, hk⟩
  have hb1 : Below (w.alloc (.cells #[.int .i64 0, .int .i64 0] 23)).heap.size (w.alloc (.cells #[.int .i64 0, .int .i64 0] 23)) w1 := by rw [hk]; exact below_drewN (Below.refl _ _) k
  clear hk hm0 hm
  rw [show (ByteArray.mk #[47]).data.toList = [47] from rfl, HC.out]
  have hR1 := hR0.below hb1
  clear hR0
  have hB1 : Below w.heap.size w w1 := Below.trans ((Below.refl _ _).alloc (Nat.le_refl _) _) (hb1.mono (by simp))
  have c7 : w1.cell? ⟨w.heap.size, 0, none⟩ = some (.int .i64 0) := (hb1.cell (by simp)).trans (by go_simp)
  have c8 : w1.cell? ⟨w.heap.size, 1, none⟩ = some (.int .i64 0) := (hb1.cell (by simp)).trans (by go_simp)
  have f7 : w1.frozen? ⟨w.heap.size, 0, none⟩ = false := (hb1.frozen (by simp)).trans (by go_simp)
  have f8 : w1.frozen? ⟨w.heap.size, 1, none⟩ = false := (hb1.frozen (by simp)).trans (by go_simp)
  clear hb1
  go_wp2_with fail
  refine (atoi_bad _ (by rw [sz]; omega) hx _ hR1).mono ?_
  rintro e w2 ⟨v2, N2, rfl, hb2⟩
  have hR2 := hR1.below hb2
  have hB2 := below_two hB1 hb2
  replace f7 := frozen_later hb2 c7 f7
  replace f8 := frozen_later hb2 c8 f8
  replace c7 := cell_later hb2 c7
  replace c8 := cell_later hb2 c8
  clear hb2 hR1
  go_wp2_with fail
  refine (atoi_ok _ (by rw [sz]; omega) _ hy _).mono ?_
  rintro e w3 ⟨rfl, hb3⟩
  have hR3 := hR2.below hb3
  have hB3 := below_two hB2 hb3
  replace f7 := frozen_later hb3 c7 f7
  replace f8 := frozen_later hb3 c8 f8
  replace c7 := cell_later hb3 c7
  replace c8 := cell_later hb3 c8
  clear hb3 hR2
  have m0 := stored_0 (x := .int .i64 0) (y := .int .i64 0) (held_of c7)
  have m1 := stored_1 (x := .int .i64 0) (y := .int .i64 0) (held_of c8)
  go_wp2
  exact bodyPost_ret (v := rv 0 0 12) (by simp [results, Tryd.results14, go_sem, m0, m1]) rfl ⟨rfl, stored_below hB3 (Nat.le_refl _)⟩

set_option maxRecDepth 100000 in
set_option maxHeartbeats 2000000 in
theorem read_two_A2 (s : ByteArray) (w : World) (hR : Ready w) (hs : s.size ≤ 1000) (t b : List UInt8) (ht : t.length ≤ 1000) (hb : b.length ≤ 1000) (HC : Hid (Lib.cut s.data.toList [47] = (t, b, true))) (hx : ∀ v, Lib.atoiAll t ≠ .ok v) (hy : ∀ v, Lib.atoiAll b ≠ .ok v) :
    Calls Tryd.prog 14 #[.string s] w fun e w' => e = .returned (rv 0 0 12) ∧ Below w.heap.size w w' := by
  obtain ⟨m, hm⟩ := hR.mx
  go_enter Tryd.func14, Tryd.ntmps14
  go_wp2_with fail
  have hR0 : Ready (w.alloc (.cells #[.int .i64 0, .int .i64 0] 23)) := hR.below ((Below.refl _ _).alloc (Nat.le_refl _) _)
  have hm0 := cell_later ((Below.refl _ _).alloc (Nat.le_refl _) (.cells #[.int .i64 0, .int .i64 0] 23)) hm
  refine (Tryd.strings_Cut _ _ m _ (by omega) hm0).mono ?_
  rintro e w1 ⟨rfl, k, hk⟩
  have hb1 : Below (w.alloc (.cells #[.int .i64 0, .int .i64 0] 23)).heap.size (w.alloc (.cells #[.int .i64 0, .int .i64 0] 23)) w1 := by rw [hk]; exact below_drewN (Below.refl _ _) k
  clear hk hm0 hm
  rw [show (ByteArray.mk #[47]).data.toList = [47] from rfl, HC.out]
  have hR1 := hR0.below hb1
  clear hR0
  have hB1 : Below w.heap.size w w1 := Below.trans ((Below.refl _ _).alloc (Nat.le_refl _) _) (hb1.mono (by simp))
  have c7 : w1.cell? ⟨w.heap.size, 0, none⟩ = some (.int .i64 0) := (hb1.cell (by simp)).trans (by go_simp)
  have c8 : w1.cell? ⟨w.heap.size, 1, none⟩ = some (.int .i64 0) := (hb1.cell (by simp)).trans (by go_simp)
  have f7 : w1.frozen? ⟨w.heap.size, 0, none⟩ = false := (hb1.frozen (by simp)).trans (by go_simp)
  have f8 : w1.frozen? ⟨w.heap.size, 1, none⟩ = false := (hb1.frozen (by simp)).trans (by go_simp)
  clear hb1
  go_wp2_with fail
  refine (atoi_bad _ (by rw [sz]; omega) hx _ hR1).mono ?_
  rintro e w2 ⟨v2, N2, rfl, hb2⟩
  have hR2 := hR1.below hb2
  have hB2 := below_two hB1 hb2
  replace f7 := frozen_later hb2 c7 f7
  replace f8 := frozen_later hb2 c8 f8
  replace c7 := cell_later hb2 c7
  replace c8 := cell_later hb2 c8
  clear hb2 hR1
  go_wp2_with fail
  refine (atoi_bad _ (by rw [sz]; omega) hy _ hR2).mono ?_
  rintro e w3 ⟨v3, N3, rfl, hb3⟩
  have hR3 := hR2.below hb3
  have hB3 := below_two hB2 hb3
  replace f7 := frozen_later hb3 c7 f7
  replace f8 := frozen_later hb3 c8 f8
  replace c7 := cell_later hb3 c7
  replace c8 := cell_later hb3 c8
  clear hb3 hR2
  have m0 := stored_0 (x := .int .i64 0) (y := .int .i64 0) (held_of c7)
  have m1 := stored_1 (x := .int .i64 0) (y := .int .i64 0) (held_of c8)
  go_wp2
  exact bodyPost_ret (v := rv 0 0 12) (by simp [results, Tryd.results14, go_sem, m0, m1]) rfl ⟨rfl, stored_below hB3 (Nat.le_refl _)⟩

set_option maxRecDepth 100000 in
set_option maxHeartbeats 2000000 in
theorem read_two_B (s : ByteArray) (w : World) (hR : Ready w) (hs : s.size ≤ 1000) (t b : List UInt8) (ht : t.length ≤ 1000) (hb : b.length ≤ 1000) (HC : Hid (Lib.cut s.data.toList [47] = (t, b, true))) (n : Int) (hx : Lib.atoiAll t = .ok n) (hy : ∀ v, Lib.atoiAll b ≠ .ok v) :
    Calls Tryd.prog 14 #[.string s] w fun e w' => e = .returned (rv 0 0 12) ∧ Below w.heap.size w w' := by
  obtain ⟨m, hm⟩ := hR.mx
  go_enter Tryd.func14, Tryd.ntmps14
  go_wp2_with fail
  have hR0 : Ready (w.alloc (.cells #[.int .i64 0, .int .i64 0] 23)) := hR.below ((Below.refl _ _).alloc (Nat.le_refl _) _)
  have hm0 := cell_later ((Below.refl _ _).alloc (Nat.le_refl _) (.cells #[.int .i64 0, .int .i64 0] 23)) hm
  refine (Tryd.strings_Cut _ _ m _ (by omega) hm0).mono ?_
  rintro e w1 ⟨rfl, k, hk⟩
  have hb1 : Below (w.alloc (.cells #[.int .i64 0, .int .i64 0] 23)).heap.size (w.alloc (.cells #[.int .i64 0, .int .i64 0] 23)) w1 := by rw [hk]; exact below_drewN (Below.refl _ _) k
  clear hk hm0 hm
  rw [show (ByteArray.mk #[47]).data.toList = [47] from rfl, HC.out]
  have hR1 := hR0.below hb1
  clear hR0
  have hB1 : Below w.heap.size w w1 := Below.trans ((Below.refl _ _).alloc (Nat.le_refl _) _) (hb1.mono (by simp))
  have c7 : w1.cell? ⟨w.heap.size, 0, none⟩ = some (.int .i64 0) := (hb1.cell (by simp)).trans (by go_simp)
  have c8 : w1.cell? ⟨w.heap.size, 1, none⟩ = some (.int .i64 0) := (hb1.cell (by simp)).trans (by go_simp)
  have f7 : w1.frozen? ⟨w.heap.size, 0, none⟩ = false := (hb1.frozen (by simp)).trans (by go_simp)
  have f8 : w1.frozen? ⟨w.heap.size, 1, none⟩ = false := (hb1.frozen (by simp)).trans (by go_simp)
  clear hb1
  go_wp2_with fail
  refine (atoi_ok _ (by rw [sz]; omega) _ hx _).mono ?_
  rintro e w2 ⟨rfl, hb2⟩
  have hR2 := hR1.below hb2
  have hB2 := below_two hB1 hb2
  replace f7 := frozen_later hb2 c7 f7
  replace f8 := frozen_later hb2 c8 f8
  replace c7 := cell_later hb2 c7
  replace c8 := cell_later hb2 c8
  clear hb2 hR1
  go_wp2_with fail
  refine (atoi_bad _ (by rw [sz]; omega) hy _ hR2).mono ?_
  rintro e w3 ⟨v3, N3, rfl, hb3⟩
  have hR3 := hR2.below hb3
  have hB3 := below_two hB2 hb3
  replace f7 := frozen_later hb3 c7 f7
  replace f8 := frozen_later hb3 c8 f8
  replace c7 := cell_later hb3 c7
  replace c8 := cell_later hb3 c8
  clear hb3 hR2
  have m0 := stored_0 (x := .int .i64 0) (y := .int .i64 0) (held_of c7)
  have m1 := stored_1 (x := .int .i64 0) (y := .int .i64 0) (held_of c8)
  go_wp2
  exact bodyPost_ret (v := rv 0 0 12) (by simp [results, Tryd.results14, go_sem, m0, m1]) rfl ⟨rfl, stored_below hB3 (Nat.le_refl _)⟩

set_option maxRecDepth 100000 in
set_option maxHeartbeats 2000000 in
theorem read_two_C1 (s : ByteArray) (w : World) (hR : Ready w) (hs : s.size ≤ 1000) (t b : List UInt8) (ht : t.length ≤ 1000) (hb : b.length ≤ 1000) (HC : Hid (Lib.cut s.data.toList [47] = (t, b, true))) (n d : Int) (hx : Lib.atoiAll t = .ok n) (hy : Lib.atoiAll b = .ok d) (hr : Rat.right n d = false) :
    Calls Tryd.prog 14 #[.string s] w fun e w' => e = .returned (rv 0 0 12) ∧ Below w.heap.size w w' := by
  obtain ⟨m, hm⟩ := hR.mx
  go_enter Tryd.func14, Tryd.ntmps14
  go_wp2_with fail
  have hR0 : Ready (w.alloc (.cells #[.int .i64 0, .int .i64 0] 23)) := hR.below ((Below.refl _ _).alloc (Nat.le_refl _) _)
  have hm0 := cell_later ((Below.refl _ _).alloc (Nat.le_refl _) (.cells #[.int .i64 0, .int .i64 0] 23)) hm
  refine (Tryd.strings_Cut _ _ m _ (by omega) hm0).mono ?_
  rintro e w1 ⟨rfl, k, hk⟩
  have hb1 : Below (w.alloc (.cells #[.int .i64 0, .int .i64 0] 23)).heap.size (w.alloc (.cells #[.int .i64 0, .int .i64 0] 23)) w1 := by rw [hk]; exact below_drewN (Below.refl _ _) k
  clear hk hm0 hm
  rw [show (ByteArray.mk #[47]).data.toList = [47] from rfl, HC.out]
  have hR1 := hR0.below hb1
  clear hR0
  have hB1 : Below w.heap.size w w1 := Below.trans ((Below.refl _ _).alloc (Nat.le_refl _) _) (hb1.mono (by simp))
  have c7 : w1.cell? ⟨w.heap.size, 0, none⟩ = some (.int .i64 0) := (hb1.cell (by simp)).trans (by go_simp)
  have c8 : w1.cell? ⟨w.heap.size, 1, none⟩ = some (.int .i64 0) := (hb1.cell (by simp)).trans (by go_simp)
  have f7 : w1.frozen? ⟨w.heap.size, 0, none⟩ = false := (hb1.frozen (by simp)).trans (by go_simp)
  have f8 : w1.frozen? ⟨w.heap.size, 1, none⟩ = false := (hb1.frozen (by simp)).trans (by go_simp)
  clear hb1
  go_wp2_with fail
  refine (atoi_ok _ (by rw [sz]; omega) _ hx _).mono ?_
  rintro e w2 ⟨rfl, hb2⟩
  have hR2 := hR1.below hb2
  have hB2 := below_two hB1 hb2
  replace f7 := frozen_later hb2 c7 f7
  replace f8 := frozen_later hb2 c8 f8
  replace c7 := cell_later hb2 c7
  replace c8 := cell_later hb2 c8
  clear hb2 hR1
  go_wp2_with fail
  refine (atoi_ok _ (by rw [sz]; omega) _ hy _).mono ?_
  rintro e w3 ⟨rfl, hb3⟩
  have hR3 := hR2.below hb3
  have hB3 := below_two hB2 hb3
  replace f7 := frozen_later hb3 c7 f7
  replace f8 := frozen_later hb3 c8 f8
  replace c7 := cell_later hb3 c7
  replace c8 := cell_later hb3 c8
  clear hb3 hR2
  go_wp2_with fail
  have hb4 : Below w3.heap.size w3 (w3.alloc (.cells #[.int .i64 n, .int .i64 d] 23)) := (Below.refl _ _).alloc (Nat.le_refl _) _
  have hR4 := hR3.below hb4
  have hB4 := below_two hB3 hb4
  have a0 : (w3.alloc (.cells #[.int .i64 n, .int .i64 d] 23)).cell? ⟨w3.heap.size, 0, none⟩ = some (.int .i64 n) := by go_simp
  have a1 : (w3.alloc (.cells #[.int .i64 n, .int .i64 d] 23)).cell? ⟨w3.heap.size, 1, none⟩ = some (.int .i64 d) := by go_simp
  replace f7 := frozen_later hb4 c7 f7
  replace f8 := frozen_later hb4 c8 f8
  replace c7 := cell_later hb4 c7
  replace c8 := cell_later hb4 c8
  refine (text_no _ _ _ hr).mono ?_
  rintro e w5 ⟨rfl, hb5⟩
  have hB5 := below_two hB4 hb5
  replace f7 := frozen_later hb5 c7 f7
  replace f8 := frozen_later hb5 c8 f8
  replace c7 := cell_later hb5 c7
  replace c8 := cell_later hb5 c8
  replace a0 := cell_later hb5 a0
  replace a1 := cell_later hb5 a1
  clear hb5 hb4
  have m0 := stored_0 (x := .int .i64 0) (y := .int .i64 0) (held_of c7)
  have m1 := stored_1 (x := .int .i64 0) (y := .int .i64 0) (held_of c8)
  go_wp2
  exact bodyPost_ret (v := rv 0 0 12) (by simp [results, Tryd.results14, go_sem, m0, m1]) rfl ⟨rfl, stored_below hB5 (Nat.le_refl _)⟩

set_option maxRecDepth 100000 in
set_option maxHeartbeats 2000000 in
theorem read_two_C2 (s : ByteArray) (w : World) (hR : Ready w) (hs : s.size ≤ 1000) (t b : List UInt8) (ht : t.length ≤ 1000) (hb : b.length ≤ 1000) (HC : Hid (Lib.cut s.data.toList [47] = (t, b, true))) (n d : Int) (hx : Lib.atoiAll t = .ok n) (hy : Lib.atoiAll b = .ok d) (hr : Rat.right n d = true) (T : List UInt8) (HT : Hid (txt n d = T)) (hl : (T == s.data.toList) = false) :
    Calls Tryd.prog 14 #[.string s] w fun e w' => e = .returned (rv 0 0 12) ∧ Below w.heap.size w w' := by
  have hl2 : (T == s.toList) = false := by rw [ByteArray.toList_eq]; exact hl
  obtain ⟨m, hm⟩ := hR.mx
  go_enter Tryd.func14, Tryd.ntmps14
  go_wp2_with fail
  have hR0 : Ready (w.alloc (.cells #[.int .i64 0, .int .i64 0] 23)) := hR.below ((Below.refl _ _).alloc (Nat.le_refl _) _)
  have hm0 := cell_later ((Below.refl _ _).alloc (Nat.le_refl _) (.cells #[.int .i64 0, .int .i64 0] 23)) hm
  refine (Tryd.strings_Cut _ _ m _ (by omega) hm0).mono ?_
  rintro e w1 ⟨rfl, k, hk⟩
  have hb1 : Below (w.alloc (.cells #[.int .i64 0, .int .i64 0] 23)).heap.size (w.alloc (.cells #[.int .i64 0, .int .i64 0] 23)) w1 := by rw [hk]; exact below_drewN (Below.refl _ _) k
  clear hk hm0 hm
  rw [show (ByteArray.mk #[47]).data.toList = [47] from rfl, HC.out]
  have hR1 := hR0.below hb1
  clear hR0
  have hB1 : Below w.heap.size w w1 := Below.trans ((Below.refl _ _).alloc (Nat.le_refl _) _) (hb1.mono (by simp))
  have c7 : w1.cell? ⟨w.heap.size, 0, none⟩ = some (.int .i64 0) := (hb1.cell (by simp)).trans (by go_simp)
  have c8 : w1.cell? ⟨w.heap.size, 1, none⟩ = some (.int .i64 0) := (hb1.cell (by simp)).trans (by go_simp)
  have f7 : w1.frozen? ⟨w.heap.size, 0, none⟩ = false := (hb1.frozen (by simp)).trans (by go_simp)
  have f8 : w1.frozen? ⟨w.heap.size, 1, none⟩ = false := (hb1.frozen (by simp)).trans (by go_simp)
  clear hb1
  go_wp2_with fail
  refine (atoi_ok _ (by rw [sz]; omega) _ hx _).mono ?_
  rintro e w2 ⟨rfl, hb2⟩
  have hR2 := hR1.below hb2
  have hB2 := below_two hB1 hb2
  replace f7 := frozen_later hb2 c7 f7
  replace f8 := frozen_later hb2 c8 f8
  replace c7 := cell_later hb2 c7
  replace c8 := cell_later hb2 c8
  clear hb2 hR1
  go_wp2_with fail
  refine (atoi_ok _ (by rw [sz]; omega) _ hy _).mono ?_
  rintro e w3 ⟨rfl, hb3⟩
  have hR3 := hR2.below hb3
  have hB3 := below_two hB2 hb3
  replace f7 := frozen_later hb3 c7 f7
  replace f8 := frozen_later hb3 c8 f8
  replace c7 := cell_later hb3 c7
  replace c8 := cell_later hb3 c8
  clear hb3 hR2
  go_wp2_with fail
  have hb4 : Below w3.heap.size w3 (w3.alloc (.cells #[.int .i64 n, .int .i64 d] 23)) := (Below.refl _ _).alloc (Nat.le_refl _) _
  have hR4 := hR3.below hb4
  have hB4 := below_two hB3 hb4
  have a0 : (w3.alloc (.cells #[.int .i64 n, .int .i64 d] 23)).cell? ⟨w3.heap.size, 0, none⟩ = some (.int .i64 n) := by go_simp
  have a1 : (w3.alloc (.cells #[.int .i64 n, .int .i64 d] 23)).cell? ⟨w3.heap.size, 1, none⟩ = some (.int .i64 d) := by go_simp
  replace f7 := frozen_later hb4 c7 f7
  replace f8 := frozen_later hb4 c8 f8
  replace c7 := cell_later hb4 c7
  replace c8 := cell_later hb4 c8
  refine (text_yes _ _ _ hr (atoi_i64 hx) (atoi_i64 hy) hR4).mono ?_
  rintro e w5 ⟨rfl, hb5⟩
  have hB5 := below_two hB4 hb5
  replace f7 := frozen_later hb5 c7 f7
  replace f8 := frozen_later hb5 c8 f8
  replace c7 := cell_later hb5 c7
  replace c8 := cell_later hb5 c8
  replace a0 := cell_later hb5 a0
  replace a1 := cell_later hb5 a1
  clear hb5 hb4
  rw [HT.out]
  have m0 := stored_0 (x := .int .i64 0) (y := .int .i64 0) (held_of c7)
  have m1 := stored_1 (x := .int .i64 0) (y := .int .i64 0) (held_of c8)
  go_wp2
  exact bodyPost_ret (v := rv 0 0 12) (by simp [results, Tryd.results14, go_sem, m0, m1]) rfl ⟨rfl, stored_below hB5 (Nat.le_refl _)⟩

set_option maxRecDepth 100000 in
set_option maxHeartbeats 2000000 in
theorem read_two_C3 (s : ByteArray) (w : World) (hR : Ready w) (hs : s.size ≤ 1000) (t b : List UInt8) (ht : t.length ≤ 1000) (hb : b.length ≤ 1000) (HC : Hid (Lib.cut s.data.toList [47] = (t, b, true))) (n d : Int) (hx : Lib.atoiAll t = .ok n) (hy : Lib.atoiAll b = .ok d) (hr : Rat.right n d = true) (T : List UInt8) (HT : Hid (txt n d = T)) (hl : (T == s.data.toList) = true) :
    Calls Tryd.prog 14 #[.string s] w fun e w' => e = .returned (rv n d 0) ∧ Below w.heap.size w w' := by
  have hl2 : (T == s.toList) = true := by rw [ByteArray.toList_eq]; exact hl
  obtain ⟨m, hm⟩ := hR.mx
  go_enter Tryd.func14, Tryd.ntmps14
  go_wp2_with fail
  have hR0 : Ready (w.alloc (.cells #[.int .i64 0, .int .i64 0] 23)) := hR.below ((Below.refl _ _).alloc (Nat.le_refl _) _)
  have hm0 := cell_later ((Below.refl _ _).alloc (Nat.le_refl _) (.cells #[.int .i64 0, .int .i64 0] 23)) hm
  refine (Tryd.strings_Cut _ _ m _ (by omega) hm0).mono ?_
  rintro e w1 ⟨rfl, k, hk⟩
  have hb1 : Below (w.alloc (.cells #[.int .i64 0, .int .i64 0] 23)).heap.size (w.alloc (.cells #[.int .i64 0, .int .i64 0] 23)) w1 := by rw [hk]; exact below_drewN (Below.refl _ _) k
  clear hk hm0 hm
  rw [show (ByteArray.mk #[47]).data.toList = [47] from rfl, HC.out]
  have hR1 := hR0.below hb1
  clear hR0
  have hB1 : Below w.heap.size w w1 := Below.trans ((Below.refl _ _).alloc (Nat.le_refl _) _) (hb1.mono (by simp))
  have c7 : w1.cell? ⟨w.heap.size, 0, none⟩ = some (.int .i64 0) := (hb1.cell (by simp)).trans (by go_simp)
  have c8 : w1.cell? ⟨w.heap.size, 1, none⟩ = some (.int .i64 0) := (hb1.cell (by simp)).trans (by go_simp)
  have f7 : w1.frozen? ⟨w.heap.size, 0, none⟩ = false := (hb1.frozen (by simp)).trans (by go_simp)
  have f8 : w1.frozen? ⟨w.heap.size, 1, none⟩ = false := (hb1.frozen (by simp)).trans (by go_simp)
  clear hb1
  go_wp2_with fail
  refine (atoi_ok _ (by rw [sz]; omega) _ hx _).mono ?_
  rintro e w2 ⟨rfl, hb2⟩
  have hR2 := hR1.below hb2
  have hB2 := below_two hB1 hb2
  replace f7 := frozen_later hb2 c7 f7
  replace f8 := frozen_later hb2 c8 f8
  replace c7 := cell_later hb2 c7
  replace c8 := cell_later hb2 c8
  clear hb2 hR1
  go_wp2_with fail
  refine (atoi_ok _ (by rw [sz]; omega) _ hy _).mono ?_
  rintro e w3 ⟨rfl, hb3⟩
  have hR3 := hR2.below hb3
  have hB3 := below_two hB2 hb3
  replace f7 := frozen_later hb3 c7 f7
  replace f8 := frozen_later hb3 c8 f8
  replace c7 := cell_later hb3 c7
  replace c8 := cell_later hb3 c8
  clear hb3 hR2
  go_wp2_with fail
  have hb4 : Below w3.heap.size w3 (w3.alloc (.cells #[.int .i64 n, .int .i64 d] 23)) := (Below.refl _ _).alloc (Nat.le_refl _) _
  have hR4 := hR3.below hb4
  have hB4 := below_two hB3 hb4
  have a0 : (w3.alloc (.cells #[.int .i64 n, .int .i64 d] 23)).cell? ⟨w3.heap.size, 0, none⟩ = some (.int .i64 n) := by go_simp
  have a1 : (w3.alloc (.cells #[.int .i64 n, .int .i64 d] 23)).cell? ⟨w3.heap.size, 1, none⟩ = some (.int .i64 d) := by go_simp
  replace f7 := frozen_later hb4 c7 f7
  replace f8 := frozen_later hb4 c8 f8
  replace c7 := cell_later hb4 c7
  replace c8 := cell_later hb4 c8
  refine (text_yes _ _ _ hr (atoi_i64 hx) (atoi_i64 hy) hR4).mono ?_
  rintro e w5 ⟨rfl, hb5⟩
  have hB5 := below_two hB4 hb5
  replace f7 := frozen_later hb5 c7 f7
  replace f8 := frozen_later hb5 c8 f8
  replace c7 := cell_later hb5 c7
  replace c8 := cell_later hb5 c8
  replace a0 := cell_later hb5 a0
  replace a1 := cell_later hb5 a1
  clear hb5 hb4
  rw [HT.out]
  have m0 := stored_0 (x := .int .i64 n) (y := .int .i64 d) (held_of c7)
  have m1 := stored_1 (x := .int .i64 n) (y := .int .i64 d) (held_of c8)
  go_wp2
  exact bodyPost_ret (v := rv n d 0) (by simp [results, Tryd.results14, go_sem, m0, m1]) rfl ⟨rfl, stored_below hB5 (Nat.le_refl _)⟩

set_option maxRecDepth 100000 in
set_option maxHeartbeats 2000000 in
theorem read_one_A1 (s : ByteArray) (w : World) (hR : Ready w) (hs : s.size ≤ 1000) (t b : List UInt8) (ht : t.length ≤ 1000) (_hb : b.length ≤ 1000) (HC : Hid (Lib.cut s.data.toList [47] = (t, b, false))) (hx : ∀ v, Lib.atoiAll t ≠ .ok v) :
    Calls Tryd.prog 14 #[.string s] w fun e w' => e = .returned (rv 0 0 12) ∧ Below w.heap.size w w' := by
  obtain ⟨m, hm⟩ := hR.mx
  go_enter Tryd.func14, Tryd.ntmps14
  go_wp2_with fail
  have hR0 : Ready (w.alloc (.cells #[.int .i64 0, .int .i64 0] 23)) := hR.below ((Below.refl _ _).alloc (Nat.le_refl _) _)
  have hm0 := cell_later ((Below.refl _ _).alloc (Nat.le_refl _) (.cells #[.int .i64 0, .int .i64 0] 23)) hm
  refine (Tryd.strings_Cut _ _ m _ (by omega) hm0).mono ?_
  rintro e w1 ⟨rfl, k, hk⟩
  have hb1 : Below (w.alloc (.cells #[.int .i64 0, .int .i64 0] 23)).heap.size (w.alloc (.cells #[.int .i64 0, .int .i64 0] 23)) w1 := by rw [hk]; exact below_drewN (Below.refl _ _) k
  clear hk hm0 hm
  rw [show (ByteArray.mk #[47]).data.toList = [47] from rfl, HC.out]
  have hR1 := hR0.below hb1
  clear hR0
  have hB1 : Below w.heap.size w w1 := Below.trans ((Below.refl _ _).alloc (Nat.le_refl _) _) (hb1.mono (by simp))
  have c7 : w1.cell? ⟨w.heap.size, 0, none⟩ = some (.int .i64 0) := (hb1.cell (by simp)).trans (by go_simp)
  have c8 : w1.cell? ⟨w.heap.size, 1, none⟩ = some (.int .i64 0) := (hb1.cell (by simp)).trans (by go_simp)
  have f7 : w1.frozen? ⟨w.heap.size, 0, none⟩ = false := (hb1.frozen (by simp)).trans (by go_simp)
  have f8 : w1.frozen? ⟨w.heap.size, 1, none⟩ = false := (hb1.frozen (by simp)).trans (by go_simp)
  clear hb1
  go_wp2_with fail
  refine (atoi_bad _ (by rw [sz]; omega) hx _ hR1).mono ?_
  rintro e w2 ⟨v2, N2, rfl, hb2⟩
  have hR2 := hR1.below hb2
  have hB2 := below_two hB1 hb2
  replace f7 := frozen_later hb2 c7 f7
  replace f8 := frozen_later hb2 c8 f8
  replace c7 := cell_later hb2 c7
  replace c8 := cell_later hb2 c8
  clear hb2 hR1
  go_wp2_with fail
  refine (atoi_ok _ (by decide) _ atoi_49 _).mono ?_
  rintro e w3 ⟨rfl, hb3⟩
  have hR3 := hR2.below hb3
  have hB3 := below_two hB2 hb3
  replace f7 := frozen_later hb3 c7 f7
  replace f8 := frozen_later hb3 c8 f8
  replace c7 := cell_later hb3 c7
  replace c8 := cell_later hb3 c8
  clear hb3 hR2
  have m0 := stored_0 (x := .int .i64 0) (y := .int .i64 0) (held_of c7)
  have m1 := stored_1 (x := .int .i64 0) (y := .int .i64 0) (held_of c8)
  go_wp2
  exact bodyPost_ret (v := rv 0 0 12) (by simp [results, Tryd.results14, go_sem, m0, m1]) rfl ⟨rfl, stored_below hB3 (Nat.le_refl _)⟩

set_option maxRecDepth 100000 in
set_option maxHeartbeats 2000000 in
theorem read_one_C1 (s : ByteArray) (w : World) (hR : Ready w) (hs : s.size ≤ 1000) (t b : List UInt8) (ht : t.length ≤ 1000) (_hb : b.length ≤ 1000) (HC : Hid (Lib.cut s.data.toList [47] = (t, b, false))) (n : Int) (hx : Lib.atoiAll t = .ok n) (hr : Rat.right n 1 = false) :
    Calls Tryd.prog 14 #[.string s] w fun e w' => e = .returned (rv 0 0 12) ∧ Below w.heap.size w w' := by
  obtain ⟨m, hm⟩ := hR.mx
  go_enter Tryd.func14, Tryd.ntmps14
  go_wp2_with fail
  have hR0 : Ready (w.alloc (.cells #[.int .i64 0, .int .i64 0] 23)) := hR.below ((Below.refl _ _).alloc (Nat.le_refl _) _)
  have hm0 := cell_later ((Below.refl _ _).alloc (Nat.le_refl _) (.cells #[.int .i64 0, .int .i64 0] 23)) hm
  refine (Tryd.strings_Cut _ _ m _ (by omega) hm0).mono ?_
  rintro e w1 ⟨rfl, k, hk⟩
  have hb1 : Below (w.alloc (.cells #[.int .i64 0, .int .i64 0] 23)).heap.size (w.alloc (.cells #[.int .i64 0, .int .i64 0] 23)) w1 := by rw [hk]; exact below_drewN (Below.refl _ _) k
  clear hk hm0 hm
  rw [show (ByteArray.mk #[47]).data.toList = [47] from rfl, HC.out]
  have hR1 := hR0.below hb1
  clear hR0
  have hB1 : Below w.heap.size w w1 := Below.trans ((Below.refl _ _).alloc (Nat.le_refl _) _) (hb1.mono (by simp))
  have c7 : w1.cell? ⟨w.heap.size, 0, none⟩ = some (.int .i64 0) := (hb1.cell (by simp)).trans (by go_simp)
  have c8 : w1.cell? ⟨w.heap.size, 1, none⟩ = some (.int .i64 0) := (hb1.cell (by simp)).trans (by go_simp)
  have f7 : w1.frozen? ⟨w.heap.size, 0, none⟩ = false := (hb1.frozen (by simp)).trans (by go_simp)
  have f8 : w1.frozen? ⟨w.heap.size, 1, none⟩ = false := (hb1.frozen (by simp)).trans (by go_simp)
  clear hb1
  go_wp2_with fail
  refine (atoi_ok _ (by rw [sz]; omega) _ hx _).mono ?_
  rintro e w2 ⟨rfl, hb2⟩
  have hR2 := hR1.below hb2
  have hB2 := below_two hB1 hb2
  replace f7 := frozen_later hb2 c7 f7
  replace f8 := frozen_later hb2 c8 f8
  replace c7 := cell_later hb2 c7
  replace c8 := cell_later hb2 c8
  clear hb2 hR1
  go_wp2_with fail
  refine (atoi_ok _ (by decide) _ atoi_49 _).mono ?_
  rintro e w3 ⟨rfl, hb3⟩
  have hR3 := hR2.below hb3
  have hB3 := below_two hB2 hb3
  replace f7 := frozen_later hb3 c7 f7
  replace f8 := frozen_later hb3 c8 f8
  replace c7 := cell_later hb3 c7
  replace c8 := cell_later hb3 c8
  clear hb3 hR2
  go_wp2_with fail
  have hb4 : Below w3.heap.size w3 (w3.alloc (.cells #[.int .i64 n, .int .i64 1] 23)) := (Below.refl _ _).alloc (Nat.le_refl _) _
  have hR4 := hR3.below hb4
  have hB4 := below_two hB3 hb4
  have a0 : (w3.alloc (.cells #[.int .i64 n, .int .i64 1] 23)).cell? ⟨w3.heap.size, 0, none⟩ = some (.int .i64 n) := by go_simp
  have a1 : (w3.alloc (.cells #[.int .i64 n, .int .i64 1] 23)).cell? ⟨w3.heap.size, 1, none⟩ = some (.int .i64 1) := by go_simp
  replace f7 := frozen_later hb4 c7 f7
  replace f8 := frozen_later hb4 c8 f8
  replace c7 := cell_later hb4 c7
  replace c8 := cell_later hb4 c8
  refine (text_no _ _ _ hr).mono ?_
  rintro e w5 ⟨rfl, hb5⟩
  have hB5 := below_two hB4 hb5
  replace f7 := frozen_later hb5 c7 f7
  replace f8 := frozen_later hb5 c8 f8
  replace c7 := cell_later hb5 c7
  replace c8 := cell_later hb5 c8
  replace a0 := cell_later hb5 a0
  replace a1 := cell_later hb5 a1
  clear hb5 hb4
  have m0 := stored_0 (x := .int .i64 0) (y := .int .i64 0) (held_of c7)
  have m1 := stored_1 (x := .int .i64 0) (y := .int .i64 0) (held_of c8)
  go_wp2
  exact bodyPost_ret (v := rv 0 0 12) (by simp [results, Tryd.results14, go_sem, m0, m1]) rfl ⟨rfl, stored_below hB5 (Nat.le_refl _)⟩

set_option maxRecDepth 100000 in
set_option maxHeartbeats 2000000 in
theorem read_one_C2 (s : ByteArray) (w : World) (hR : Ready w) (hs : s.size ≤ 1000) (t b : List UInt8) (ht : t.length ≤ 1000) (_hb : b.length ≤ 1000) (HC : Hid (Lib.cut s.data.toList [47] = (t, b, false))) (n : Int) (hx : Lib.atoiAll t = .ok n) (hr : Rat.right n 1 = true) (T : List UInt8) (HT : Hid (txt n 1 = T)) (hl : (T == s.data.toList) = false) :
    Calls Tryd.prog 14 #[.string s] w fun e w' => e = .returned (rv 0 0 12) ∧ Below w.heap.size w w' := by
  have hl2 : (T == s.toList) = false := by rw [ByteArray.toList_eq]; exact hl
  obtain ⟨m, hm⟩ := hR.mx
  go_enter Tryd.func14, Tryd.ntmps14
  go_wp2_with fail
  have hR0 : Ready (w.alloc (.cells #[.int .i64 0, .int .i64 0] 23)) := hR.below ((Below.refl _ _).alloc (Nat.le_refl _) _)
  have hm0 := cell_later ((Below.refl _ _).alloc (Nat.le_refl _) (.cells #[.int .i64 0, .int .i64 0] 23)) hm
  refine (Tryd.strings_Cut _ _ m _ (by omega) hm0).mono ?_
  rintro e w1 ⟨rfl, k, hk⟩
  have hb1 : Below (w.alloc (.cells #[.int .i64 0, .int .i64 0] 23)).heap.size (w.alloc (.cells #[.int .i64 0, .int .i64 0] 23)) w1 := by rw [hk]; exact below_drewN (Below.refl _ _) k
  clear hk hm0 hm
  rw [show (ByteArray.mk #[47]).data.toList = [47] from rfl, HC.out]
  have hR1 := hR0.below hb1
  clear hR0
  have hB1 : Below w.heap.size w w1 := Below.trans ((Below.refl _ _).alloc (Nat.le_refl _) _) (hb1.mono (by simp))
  have c7 : w1.cell? ⟨w.heap.size, 0, none⟩ = some (.int .i64 0) := (hb1.cell (by simp)).trans (by go_simp)
  have c8 : w1.cell? ⟨w.heap.size, 1, none⟩ = some (.int .i64 0) := (hb1.cell (by simp)).trans (by go_simp)
  have f7 : w1.frozen? ⟨w.heap.size, 0, none⟩ = false := (hb1.frozen (by simp)).trans (by go_simp)
  have f8 : w1.frozen? ⟨w.heap.size, 1, none⟩ = false := (hb1.frozen (by simp)).trans (by go_simp)
  clear hb1
  go_wp2_with fail
  refine (atoi_ok _ (by rw [sz]; omega) _ hx _).mono ?_
  rintro e w2 ⟨rfl, hb2⟩
  have hR2 := hR1.below hb2
  have hB2 := below_two hB1 hb2
  replace f7 := frozen_later hb2 c7 f7
  replace f8 := frozen_later hb2 c8 f8
  replace c7 := cell_later hb2 c7
  replace c8 := cell_later hb2 c8
  clear hb2 hR1
  go_wp2_with fail
  refine (atoi_ok _ (by decide) _ atoi_49 _).mono ?_
  rintro e w3 ⟨rfl, hb3⟩
  have hR3 := hR2.below hb3
  have hB3 := below_two hB2 hb3
  replace f7 := frozen_later hb3 c7 f7
  replace f8 := frozen_later hb3 c8 f8
  replace c7 := cell_later hb3 c7
  replace c8 := cell_later hb3 c8
  clear hb3 hR2
  go_wp2_with fail
  have hb4 : Below w3.heap.size w3 (w3.alloc (.cells #[.int .i64 n, .int .i64 1] 23)) := (Below.refl _ _).alloc (Nat.le_refl _) _
  have hR4 := hR3.below hb4
  have hB4 := below_two hB3 hb4
  have a0 : (w3.alloc (.cells #[.int .i64 n, .int .i64 1] 23)).cell? ⟨w3.heap.size, 0, none⟩ = some (.int .i64 n) := by go_simp
  have a1 : (w3.alloc (.cells #[.int .i64 n, .int .i64 1] 23)).cell? ⟨w3.heap.size, 1, none⟩ = some (.int .i64 1) := by go_simp
  replace f7 := frozen_later hb4 c7 f7
  replace f8 := frozen_later hb4 c8 f8
  replace c7 := cell_later hb4 c7
  replace c8 := cell_later hb4 c8
  refine (text_yes _ _ _ hr (atoi_i64 hx) (atoi_i64 atoi_49) hR4).mono ?_
  rintro e w5 ⟨rfl, hb5⟩
  have hB5 := below_two hB4 hb5
  replace f7 := frozen_later hb5 c7 f7
  replace f8 := frozen_later hb5 c8 f8
  replace c7 := cell_later hb5 c7
  replace c8 := cell_later hb5 c8
  replace a0 := cell_later hb5 a0
  replace a1 := cell_later hb5 a1
  clear hb5 hb4
  rw [HT.out]
  have m0 := stored_0 (x := .int .i64 0) (y := .int .i64 0) (held_of c7)
  have m1 := stored_1 (x := .int .i64 0) (y := .int .i64 0) (held_of c8)
  go_wp2
  exact bodyPost_ret (v := rv 0 0 12) (by simp [results, Tryd.results14, go_sem, m0, m1]) rfl ⟨rfl, stored_below hB5 (Nat.le_refl _)⟩

set_option maxRecDepth 100000 in
set_option maxHeartbeats 2000000 in
theorem read_one_C3 (s : ByteArray) (w : World) (hR : Ready w) (hs : s.size ≤ 1000) (t b : List UInt8) (ht : t.length ≤ 1000) (_hb : b.length ≤ 1000) (HC : Hid (Lib.cut s.data.toList [47] = (t, b, false))) (n : Int) (hx : Lib.atoiAll t = .ok n) (hr : Rat.right n 1 = true) (T : List UInt8) (HT : Hid (txt n 1 = T)) (hl : (T == s.data.toList) = true) :
    Calls Tryd.prog 14 #[.string s] w fun e w' => e = .returned (rv n 1 0) ∧ Below w.heap.size w w' := by
  have hl2 : (T == s.toList) = true := by rw [ByteArray.toList_eq]; exact hl
  obtain ⟨m, hm⟩ := hR.mx
  go_enter Tryd.func14, Tryd.ntmps14
  go_wp2_with fail
  have hR0 : Ready (w.alloc (.cells #[.int .i64 0, .int .i64 0] 23)) := hR.below ((Below.refl _ _).alloc (Nat.le_refl _) _)
  have hm0 := cell_later ((Below.refl _ _).alloc (Nat.le_refl _) (.cells #[.int .i64 0, .int .i64 0] 23)) hm
  refine (Tryd.strings_Cut _ _ m _ (by omega) hm0).mono ?_
  rintro e w1 ⟨rfl, k, hk⟩
  have hb1 : Below (w.alloc (.cells #[.int .i64 0, .int .i64 0] 23)).heap.size (w.alloc (.cells #[.int .i64 0, .int .i64 0] 23)) w1 := by rw [hk]; exact below_drewN (Below.refl _ _) k
  clear hk hm0 hm
  rw [show (ByteArray.mk #[47]).data.toList = [47] from rfl, HC.out]
  have hR1 := hR0.below hb1
  clear hR0
  have hB1 : Below w.heap.size w w1 := Below.trans ((Below.refl _ _).alloc (Nat.le_refl _) _) (hb1.mono (by simp))
  have c7 : w1.cell? ⟨w.heap.size, 0, none⟩ = some (.int .i64 0) := (hb1.cell (by simp)).trans (by go_simp)
  have c8 : w1.cell? ⟨w.heap.size, 1, none⟩ = some (.int .i64 0) := (hb1.cell (by simp)).trans (by go_simp)
  have f7 : w1.frozen? ⟨w.heap.size, 0, none⟩ = false := (hb1.frozen (by simp)).trans (by go_simp)
  have f8 : w1.frozen? ⟨w.heap.size, 1, none⟩ = false := (hb1.frozen (by simp)).trans (by go_simp)
  clear hb1
  go_wp2_with fail
  refine (atoi_ok _ (by rw [sz]; omega) _ hx _).mono ?_
  rintro e w2 ⟨rfl, hb2⟩
  have hR2 := hR1.below hb2
  have hB2 := below_two hB1 hb2
  replace f7 := frozen_later hb2 c7 f7
  replace f8 := frozen_later hb2 c8 f8
  replace c7 := cell_later hb2 c7
  replace c8 := cell_later hb2 c8
  clear hb2 hR1
  go_wp2_with fail
  refine (atoi_ok _ (by decide) _ atoi_49 _).mono ?_
  rintro e w3 ⟨rfl, hb3⟩
  have hR3 := hR2.below hb3
  have hB3 := below_two hB2 hb3
  replace f7 := frozen_later hb3 c7 f7
  replace f8 := frozen_later hb3 c8 f8
  replace c7 := cell_later hb3 c7
  replace c8 := cell_later hb3 c8
  clear hb3 hR2
  go_wp2_with fail
  have hb4 : Below w3.heap.size w3 (w3.alloc (.cells #[.int .i64 n, .int .i64 1] 23)) := (Below.refl _ _).alloc (Nat.le_refl _) _
  have hR4 := hR3.below hb4
  have hB4 := below_two hB3 hb4
  have a0 : (w3.alloc (.cells #[.int .i64 n, .int .i64 1] 23)).cell? ⟨w3.heap.size, 0, none⟩ = some (.int .i64 n) := by go_simp
  have a1 : (w3.alloc (.cells #[.int .i64 n, .int .i64 1] 23)).cell? ⟨w3.heap.size, 1, none⟩ = some (.int .i64 1) := by go_simp
  replace f7 := frozen_later hb4 c7 f7
  replace f8 := frozen_later hb4 c8 f8
  replace c7 := cell_later hb4 c7
  replace c8 := cell_later hb4 c8
  refine (text_yes _ _ _ hr (atoi_i64 hx) (atoi_i64 atoi_49) hR4).mono ?_
  rintro e w5 ⟨rfl, hb5⟩
  have hB5 := below_two hB4 hb5
  replace f7 := frozen_later hb5 c7 f7
  replace f8 := frozen_later hb5 c8 f8
  replace c7 := cell_later hb5 c7
  replace c8 := cell_later hb5 c8
  replace a0 := cell_later hb5 a0
  replace a1 := cell_later hb5 a1
  clear hb5 hb4
  rw [HT.out]
  have m0 := stored_0 (x := .int .i64 n) (y := .int .i64 1) (held_of c7)
  have m1 := stored_1 (x := .int .i64 n) (y := .int .i64 1) (held_of c8)
  go_wp2
  exact bodyPost_ret (v := rv n 1 0) (by simp [results, Tryd.results14, go_sem, m0, m1]) rfl ⟨rfl, stored_below hB5 (Nat.le_refl _)⟩

theorem read_any (s : ByteArray) (w : World) (hR : Ready w) (hs : s.size ≤ 1000) :
    Calls Tryd.prog 14 #[.string s] w fun e w' => e = .returned (rdV (rd s.data.toList)) ∧ Below w.heap.size w w' := by
  have hl : s.data.toList.length ≤ 1000 := by rw [← Lib.size_eq]; exact hs
  have hc := cut_le s.data.toList
  unfold rd
  generalize hC : Lib.cut s.data.toList [47] = C at *
  obtain ⟨t, b, two⟩ := C
  have ht : t.length ≤ 1000 := by have := hc.1; simp at this; omega
  have hb : b.length ≤ 1000 := by have := hc.2; simp at this; omega
  have HC := Lib.hid hC
  cases two
  · show Calls _ _ _ _ fun e w' => e = .returned (rdV (rdOf (Lib.atoiAll t) (Lib.atoiAll [49]) s.data.toList)) ∧ Below w.heap.size w w'
    rw [show Lib.atoiAll [49] = .ok 1 from atoi_49]
    cases hx : Lib.atoiAll t
    · rename_i n
      cases hr : Rat.right n 1 with
      | false => rw [rdOf_right hr]; exact read_one_C1 s w hR hs t b ht hb HC n hx hr
      | true =>
        cases hT : (txt n 1 == s.data.toList) with
        | false => rw [rdOf_text hT]; exact read_one_C2 s w hR hs t b ht hb HC n hx hr _ (Lib.hid rfl) hT
        | true => rw [rdOf_yes hr hT]; exact read_one_C3 s w hR hs t b ht hb HC n hx hr _ (Lib.hid rfl) hT
    · exact read_one_A1 s w hR hs t b ht hb HC (fun v => by rw [hx]; intro e; cases e)
    · exact read_one_A1 s w hR hs t b ht hb HC (fun v => by rw [hx]; intro e; cases e)
  · show Calls _ _ _ _ fun e w' => e = .returned (rdV (rdOf (Lib.atoiAll t) (Lib.atoiAll b) s.data.toList)) ∧ Below w.heap.size w w'
    cases hx : Lib.atoiAll t
    · rename_i n
      cases hy : Lib.atoiAll b
      · rename_i d
        cases hr : Rat.right n d with
        | false => rw [rdOf_right hr]; exact read_two_C1 s w hR hs t b ht hb HC n d hx hy hr
        | true =>
          cases hT : (txt n d == s.data.toList) with
          | false => rw [rdOf_text hT]; exact read_two_C2 s w hR hs t b ht hb HC n d hx hy hr _ (Lib.hid rfl) hT
          | true => rw [rdOf_yes hr hT]; exact read_two_C3 s w hR hs t b ht hb HC n d hx hy hr _ (Lib.hid rfl) hT
      · exact read_two_B s w hR hs t b ht hb HC n hx (fun v => by rw [hy]; intro e; cases e)
      · exact read_two_B s w hR hs t b ht hb HC n hx (fun v => by rw [hy]; intro e; cases e)
    all_goals
      have hx' : ∀ v, Lib.atoiAll t ≠ .ok v := fun v => by rw [hx]; intro e; cases e
      cases hy : Lib.atoiAll b
      · exact read_two_A1 s w hR hs t b ht hb HC _ hx' hy
      · exact read_two_A2 s w hR hs t b ht hb HC hx' (fun v => by rw [hy]; intro e; cases e)
      · exact read_two_A2 s w hR hs t b ht hb HC hx' (fun v => by rw [hy]; intro e; cases e)
end Go.Proofs.YtgndmaihhkhnpaaDoor
