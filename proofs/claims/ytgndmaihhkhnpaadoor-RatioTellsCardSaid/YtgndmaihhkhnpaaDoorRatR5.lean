/-
  The contract of the reference's Read: it answers what the program's Read answers.
-/
import Derived.Test.YtgndmaihhkhnpaaDoorRatR4
namespace Go.Proofs.YtgndmaihhkhnpaaDoor
open Go.RowKit

/-- What is known of the two blocks of Read: its result's, and its ratio's. -/
structure Pack (w W : World) (x y : Value) : Prop where
  c7 : W.cell? ⟨w.heap.size, 0, none⟩ = some (.int .i64 0)
  c8 : W.cell? ⟨w.heap.size, 1, none⟩ = some (.int .i64 0)
  f7 : W.frozen? ⟨w.heap.size, 0, none⟩ = false
  f8 : W.frozen? ⟨w.heap.size, 1, none⟩ = false
  a0 : W.cell? ⟨w.heap.size + 1, 0, none⟩ = some x
  a1 : W.cell? ⟨w.heap.size + 1, 1, none⟩ = some y
  g0 : W.frozen? ⟨w.heap.size + 1, 0, none⟩ = false
  g1 : W.frozen? ⟨w.heap.size + 1, 1, none⟩ = false
  hB : Below w.heap.size w W
theorem Pack.start (w : World) (t : TypeId) : Pack w ((w.alloc (.cells #[.int .i64 0, .int .i64 0] t)).alloc (.cells #[.int .i64 0, .int .i64 1] t)) (.int .i64 0) (.int .i64 1) :=
  ⟨by go_simp, by go_simp, by go_simp, by go_simp, by go_simp, by go_simp, by go_simp, by go_simp, ((Below.refl _ _).alloc (Nat.le_refl _) _).alloc (by simp) _⟩
theorem Pack.later {w W W' : World} {x y : Value} (h : Pack w W x y) (hb : Below W.heap.size W W') : Pack w W' x y :=
  ⟨cell_later hb h.c7, cell_later hb h.c8, frozen_later hb h.c7 h.f7, frozen_later hb h.c8 h.f8, cell_later hb h.a0, cell_later hb h.a1, frozen_later hb h.a0 h.g0, frozen_later hb h.a1 h.g1, below_two h.hB hb⟩
theorem Pack.set0 {w W : World} {x y : Value} (h : Pack w W x y) (v : Value) : Pack w (W.setCell ⟨w.heap.size + 1, 0, none⟩ v) v y :=
  ⟨(World.cell?_setCell_other _ _ _ _ (by simp)).trans h.c7, (World.cell?_setCell_other _ _ _ _ (by simp)).trans h.c8, by rw [World.frozen?_setCell]; exact h.f7, by rw [World.frozen?_setCell]; exact h.f8,
    World.cell?_setCell_same _ _ _ h.a0, (World.cell?_setCell_other _ _ _ _ (by simp)).trans h.a1, by rw [World.frozen?_setCell]; exact h.g0, by rw [World.frozen?_setCell]; exact h.g1, h.hB.setCell (by simp) _⟩
theorem Pack.set1 {w W : World} {x y : Value} (h : Pack w W x y) (v : Value) : Pack w (W.setCell ⟨w.heap.size + 1, 1, none⟩ v) x v :=
  ⟨(World.cell?_setCell_other _ _ _ _ (by simp)).trans h.c7, (World.cell?_setCell_other _ _ _ _ (by simp)).trans h.c8, by rw [World.frozen?_setCell]; exact h.f7, by rw [World.frozen?_setCell]; exact h.f8,
    (World.cell?_setCell_other _ _ _ _ (by simp)).trans h.a0, World.cell?_setCell_same _ _ _ h.a1, by rw [World.frozen?_setCell]; exact h.g0, by rw [World.frozen?_setCell]; exact h.g1, h.hB.setCell (by simp) _⟩
def AtRel (K : Nat) (x : Value) : Prop := ∃ k : Nat, k ≤ K ∧ x = .int .i64 k

set_option maxRecDepth 100000 in
set_option maxHeartbeats 2000000 in
theorem refRead_f1 (s P : ByteArray) (w : World) (K : Nat) (n : Int) (Q : ByteArray) (d : Int) (is : Bool) (T : List UInt8) (e : Int) (hs : s.size ≤ 30) (hP : P.size ≤ 30) (HP : Hid (s.extract 0 K = P)) (HN : Hid (∀ k (h : k < s.size), k < K → ((s[k].toNat : Int) != 47) = true)) (in1 : Rat.I64 n) (HR1 : Hid (readNum P.data.toList = (n, false))) (hK : K < s.size) (h47 : ((s[K].toNat : Int) != 47) = false) (hQ : Q.size ≤ 30) (HQ : Hid (s.extract (K + 1) s.size = Q)) (in2 : Rat.I64 d) (HR2 : Hid (readNum Q.data.toList = (d, is))) (HT : Hid (txtV (Rat.right n d) n d = T ∧ floorE (Rat.right n d) = e)) :
    Calls Tryd.prog 15 #[.string s] w fun e w' => e = .returned (rv 0 0 12) ∧ Below w.heap.size w w' := by
  have PK := Lib.hid (Pack.start w 23)
  go_enter Tryd.func15, Tryd.ntmps15
  go_wp2
  go_loop [5] (AtRel K) (fun i => s.size - (intOf i).toNat)
  case atStart => exact ⟨0, Nat.zero_le _, rfl⟩
  case round =>
    obtain ⟨k, hk, rfl⟩ := hrel
    by_cases hlt : k < K
    · have hks : k < s.size := by omega
      have h1 := HN.out k hks hlt
      go_wp2
      refine ⟨⟨k + 1, by omega, by go_num⟩, by simp [intOf]; omega⟩
    · obtain rfl : k = K := by omega
      go_wp2_with fail
      rw [HP.out]
      refine (readNumber_any _ _ hP).mono ?_
      rintro e w1 ⟨rfl, hb1⟩
      rw [HR1.out]
      replace PK := Lib.hid (PK.out.later hb1)
      clear hb1
      obtain ⟨c7, c8, f7, f8, a0, a1, g0, g1, hB⟩ := PK.out
      go_wp2_with fail
      replace PK := Lib.hid (PK.out.set0 (.int .i64 n))
      clear c7 c8 f7 f8 a0 a1 g0 g1 hB
      rw [HQ.out]
      refine (readNumber_any _ _ hQ).mono ?_
      rintro e w2 ⟨rfl, hb2⟩
      rw [HR2.out]
      replace PK := Lib.hid (PK.out.later hb2)
      clear hb2
      obtain ⟨c7, c8, f7, f8, a0, a1, g0, g1, hB⟩ := PK.out
      go_wp2_with fail
      replace PK := Lib.hid (PK.out.set1 (.int .i64 d))
      clear c7 c8 f7 f8 a0 a1 g0 g1 hB
      obtain ⟨c7, c8, f7, f8, a0, a1, g0, g1, hB⟩ := PK.out
      clear c7 c8 f7 f8 g0 g1 hB
      refine (refText_any _ _ _ in1 in2).mono ?_
      rintro e w3 ⟨rfl, hb3⟩
      rw [HT.out.1, HT.out.2]
      clear a0 a1
      replace PK := Lib.hid (PK.out.later hb3)
      clear hb3
      obtain ⟨c7, c8, f7, f8, a0, a1, g0, g1, hB⟩ := PK.out
      have m0 := stored_0 (x := .int .i64 0) (y := .int .i64 0) (held_of c7)
      have m1 := stored_1 (x := .int .i64 0) (y := .int .i64 0) (held_of c8)
      go_wp2
      exact bodyPost_ret (v := rv 0 0 12) (by simp [results, Tryd.results15, go_sem, m0, m1]) rfl ⟨rfl, stored_below hB (Nat.le_refl _)⟩

set_option maxRecDepth 100000 in
set_option maxHeartbeats 2000000 in
theorem refRead_f2 (s P : ByteArray) (w : World) (K : Nat) (n : Int) (Q : ByteArray) (d : Int) (T : List UInt8) (e : Int) (hs : s.size ≤ 30) (hP : P.size ≤ 30) (HP : Hid (s.extract 0 K = P)) (HN : Hid (∀ k (h : k < s.size), k < K → ((s[k].toNat : Int) != 47) = true)) (in1 : Rat.I64 n) (HR1 : Hid (readNum P.data.toList = (n, true))) (hK : K < s.size) (h47 : ((s[K].toNat : Int) != 47) = false) (hQ : Q.size ≤ 30) (HQ : Hid (s.extract (K + 1) s.size = Q)) (in2 : Rat.I64 d) (HR2 : Hid (readNum Q.data.toList = (d, false))) (HT : Hid (txtV (Rat.right n d) n d = T ∧ floorE (Rat.right n d) = e)) :
    Calls Tryd.prog 15 #[.string s] w fun e w' => e = .returned (rv 0 0 12) ∧ Below w.heap.size w w' := by
  have PK := Lib.hid (Pack.start w 23)
  go_enter Tryd.func15, Tryd.ntmps15
  go_wp2
  go_loop [5] (AtRel K) (fun i => s.size - (intOf i).toNat)
  case atStart => exact ⟨0, Nat.zero_le _, rfl⟩
  case round =>
    obtain ⟨k, hk, rfl⟩ := hrel
    by_cases hlt : k < K
    · have hks : k < s.size := by omega
      have h1 := HN.out k hks hlt
      go_wp2
      refine ⟨⟨k + 1, by omega, by go_num⟩, by simp [intOf]; omega⟩
    · obtain rfl : k = K := by omega
      go_wp2_with fail
      rw [HP.out]
      refine (readNumber_any _ _ hP).mono ?_
      rintro e w1 ⟨rfl, hb1⟩
      rw [HR1.out]
      replace PK := Lib.hid (PK.out.later hb1)
      clear hb1
      obtain ⟨c7, c8, f7, f8, a0, a1, g0, g1, hB⟩ := PK.out
      go_wp2_with fail
      replace PK := Lib.hid (PK.out.set0 (.int .i64 n))
      clear c7 c8 f7 f8 a0 a1 g0 g1 hB
      rw [HQ.out]
      refine (readNumber_any _ _ hQ).mono ?_
      rintro e w2 ⟨rfl, hb2⟩
      rw [HR2.out]
      replace PK := Lib.hid (PK.out.later hb2)
      clear hb2
      obtain ⟨c7, c8, f7, f8, a0, a1, g0, g1, hB⟩ := PK.out
      go_wp2_with fail
      replace PK := Lib.hid (PK.out.set1 (.int .i64 d))
      clear c7 c8 f7 f8 a0 a1 g0 g1 hB
      obtain ⟨c7, c8, f7, f8, a0, a1, g0, g1, hB⟩ := PK.out
      clear c7 c8 f7 f8 g0 g1 hB
      refine (refText_any _ _ _ in1 in2).mono ?_
      rintro e w3 ⟨rfl, hb3⟩
      rw [HT.out.1, HT.out.2]
      clear a0 a1
      replace PK := Lib.hid (PK.out.later hb3)
      clear hb3
      obtain ⟨c7, c8, f7, f8, a0, a1, g0, g1, hB⟩ := PK.out
      have m0 := stored_0 (x := .int .i64 0) (y := .int .i64 0) (held_of c7)
      have m1 := stored_1 (x := .int .i64 0) (y := .int .i64 0) (held_of c8)
      go_wp2
      exact bodyPost_ret (v := rv 0 0 12) (by simp [results, Tryd.results15, go_sem, m0, m1]) rfl ⟨rfl, stored_below hB (Nat.le_refl _)⟩

set_option maxRecDepth 100000 in
set_option maxHeartbeats 2000000 in
theorem refRead_f3 (s P : ByteArray) (w : World) (K : Nat) (n : Int) (Q : ByteArray) (d : Int) (T : List UInt8) (hs : s.size ≤ 30) (hP : P.size ≤ 30) (HP : Hid (s.extract 0 K = P)) (HN : Hid (∀ k (h : k < s.size), k < K → ((s[k].toNat : Int) != 47) = true)) (in1 : Rat.I64 n) (HR1 : Hid (readNum P.data.toList = (n, true))) (hK : K < s.size) (h47 : ((s[K].toNat : Int) != 47) = false) (hQ : Q.size ≤ 30) (HQ : Hid (s.extract (K + 1) s.size = Q)) (in2 : Rat.I64 d) (HR2 : Hid (readNum Q.data.toList = (d, true))) (HT : Hid (txtV (Rat.right n d) n d = T ∧ floorE (Rat.right n d) = 10)) :
    Calls Tryd.prog 15 #[.string s] w fun e w' => e = .returned (rv 0 0 12) ∧ Below w.heap.size w w' := by
  have PK := Lib.hid (Pack.start w 23)
  go_enter Tryd.func15, Tryd.ntmps15
  go_wp2
  go_loop [5] (AtRel K) (fun i => s.size - (intOf i).toNat)
  case atStart => exact ⟨0, Nat.zero_le _, rfl⟩
  case round =>
    obtain ⟨k, hk, rfl⟩ := hrel
    by_cases hlt : k < K
    · have hks : k < s.size := by omega
      have h1 := HN.out k hks hlt
      go_wp2
      refine ⟨⟨k + 1, by omega, by go_num⟩, by simp [intOf]; omega⟩
    · obtain rfl : k = K := by omega
      go_wp2_with fail
      rw [HP.out]
      refine (readNumber_any _ _ hP).mono ?_
      rintro e w1 ⟨rfl, hb1⟩
      rw [HR1.out]
      replace PK := Lib.hid (PK.out.later hb1)
      clear hb1
      obtain ⟨c7, c8, f7, f8, a0, a1, g0, g1, hB⟩ := PK.out
      go_wp2_with fail
      replace PK := Lib.hid (PK.out.set0 (.int .i64 n))
      clear c7 c8 f7 f8 a0 a1 g0 g1 hB
      rw [HQ.out]
      refine (readNumber_any _ _ hQ).mono ?_
      rintro e w2 ⟨rfl, hb2⟩
      rw [HR2.out]
      replace PK := Lib.hid (PK.out.later hb2)
      clear hb2
      obtain ⟨c7, c8, f7, f8, a0, a1, g0, g1, hB⟩ := PK.out
      go_wp2_with fail
      replace PK := Lib.hid (PK.out.set1 (.int .i64 d))
      clear c7 c8 f7 f8 a0 a1 g0 g1 hB
      obtain ⟨c7, c8, f7, f8, a0, a1, g0, g1, hB⟩ := PK.out
      clear c7 c8 f7 f8 g0 g1 hB
      refine (refText_any _ _ _ in1 in2).mono ?_
      rintro e w3 ⟨rfl, hb3⟩
      rw [HT.out.1, HT.out.2]
      clear a0 a1
      replace PK := Lib.hid (PK.out.later hb3)
      clear hb3
      obtain ⟨c7, c8, f7, f8, a0, a1, g0, g1, hB⟩ := PK.out
      have m0 := stored_0 (x := .int .i64 0) (y := .int .i64 0) (held_of c7)
      have m1 := stored_1 (x := .int .i64 0) (y := .int .i64 0) (held_of c8)
      go_wp2
      exact bodyPost_ret (v := rv 0 0 12) (by simp [results, Tryd.results15, go_sem, m0, m1]) rfl ⟨rfl, stored_below hB (Nat.le_refl _)⟩

set_option maxRecDepth 100000 in
set_option maxHeartbeats 2000000 in
theorem refRead_f4 (s P : ByteArray) (w : World) (K : Nat) (n : Int) (Q : ByteArray) (d : Int) (T : List UInt8) (hs : s.size ≤ 30) (hP : P.size ≤ 30) (HP : Hid (s.extract 0 K = P)) (HN : Hid (∀ k (h : k < s.size), k < K → ((s[k].toNat : Int) != 47) = true)) (in1 : Rat.I64 n) (HR1 : Hid (readNum P.data.toList = (n, true))) (hK : K < s.size) (h47 : ((s[K].toNat : Int) != 47) = false) (hQ : Q.size ≤ 30) (HQ : Hid (s.extract (K + 1) s.size = Q)) (in2 : Rat.I64 d) (HR2 : Hid (readNum Q.data.toList = (d, true))) (HT : Hid (txtV (Rat.right n d) n d = T ∧ floorE (Rat.right n d) = 0)) (hl : (T == s.toList) = false) :
    Calls Tryd.prog 15 #[.string s] w fun e w' => e = .returned (rv 0 0 12) ∧ Below w.heap.size w w' := by
  have PK := Lib.hid (Pack.start w 23)
  go_enter Tryd.func15, Tryd.ntmps15
  go_wp2
  go_loop [5] (AtRel K) (fun i => s.size - (intOf i).toNat)
  case atStart => exact ⟨0, Nat.zero_le _, rfl⟩
  case round =>
    obtain ⟨k, hk, rfl⟩ := hrel
    by_cases hlt : k < K
    · have hks : k < s.size := by omega
      have h1 := HN.out k hks hlt
      go_wp2
      refine ⟨⟨k + 1, by omega, by go_num⟩, by simp [intOf]; omega⟩
    · obtain rfl : k = K := by omega
      go_wp2_with fail
      rw [HP.out]
      refine (readNumber_any _ _ hP).mono ?_
      rintro e w1 ⟨rfl, hb1⟩
      rw [HR1.out]
      replace PK := Lib.hid (PK.out.later hb1)
      clear hb1
      obtain ⟨c7, c8, f7, f8, a0, a1, g0, g1, hB⟩ := PK.out
      go_wp2_with fail
      replace PK := Lib.hid (PK.out.set0 (.int .i64 n))
      clear c7 c8 f7 f8 a0 a1 g0 g1 hB
      rw [HQ.out]
      refine (readNumber_any _ _ hQ).mono ?_
      rintro e w2 ⟨rfl, hb2⟩
      rw [HR2.out]
      replace PK := Lib.hid (PK.out.later hb2)
      clear hb2
      obtain ⟨c7, c8, f7, f8, a0, a1, g0, g1, hB⟩ := PK.out
      go_wp2_with fail
      replace PK := Lib.hid (PK.out.set1 (.int .i64 d))
      clear c7 c8 f7 f8 a0 a1 g0 g1 hB
      obtain ⟨c7, c8, f7, f8, a0, a1, g0, g1, hB⟩ := PK.out
      clear c7 c8 f7 f8 g0 g1 hB
      refine (refText_any _ _ _ in1 in2).mono ?_
      rintro e w3 ⟨rfl, hb3⟩
      rw [HT.out.1, HT.out.2]
      clear a0 a1
      replace PK := Lib.hid (PK.out.later hb3)
      clear hb3
      obtain ⟨c7, c8, f7, f8, a0, a1, g0, g1, hB⟩ := PK.out
      have m0 := stored_0 (x := .int .i64 0) (y := .int .i64 0) (held_of c7)
      have m1 := stored_1 (x := .int .i64 0) (y := .int .i64 0) (held_of c8)
      go_wp2
      exact bodyPost_ret (v := rv 0 0 12) (by simp [results, Tryd.results15, go_sem, m0, m1]) rfl ⟨rfl, stored_below hB (Nat.le_refl _)⟩

set_option maxRecDepth 100000 in
set_option maxHeartbeats 2000000 in
theorem refRead_f5 (s P : ByteArray) (w : World) (K : Nat) (n : Int) (Q : ByteArray) (d : Int) (T : List UInt8) (hs : s.size ≤ 30) (hP : P.size ≤ 30) (HP : Hid (s.extract 0 K = P)) (HN : Hid (∀ k (h : k < s.size), k < K → ((s[k].toNat : Int) != 47) = true)) (in1 : Rat.I64 n) (HR1 : Hid (readNum P.data.toList = (n, true))) (hK : K < s.size) (h47 : ((s[K].toNat : Int) != 47) = false) (hQ : Q.size ≤ 30) (HQ : Hid (s.extract (K + 1) s.size = Q)) (in2 : Rat.I64 d) (HR2 : Hid (readNum Q.data.toList = (d, true))) (HT : Hid (txtV (Rat.right n d) n d = T ∧ floorE (Rat.right n d) = 0)) (hl : (T == s.toList) = true) :
    Calls Tryd.prog 15 #[.string s] w fun e w' => e = .returned (rv n d 0) ∧ Below w.heap.size w w' := by
  have PK := Lib.hid (Pack.start w 23)
  go_enter Tryd.func15, Tryd.ntmps15
  go_wp2
  go_loop [5] (AtRel K) (fun i => s.size - (intOf i).toNat)
  case atStart => exact ⟨0, Nat.zero_le _, rfl⟩
  case round =>
    obtain ⟨k, hk, rfl⟩ := hrel
    by_cases hlt : k < K
    · have hks : k < s.size := by omega
      have h1 := HN.out k hks hlt
      go_wp2
      refine ⟨⟨k + 1, by omega, by go_num⟩, by simp [intOf]; omega⟩
    · obtain rfl : k = K := by omega
      go_wp2_with fail
      rw [HP.out]
      refine (readNumber_any _ _ hP).mono ?_
      rintro e w1 ⟨rfl, hb1⟩
      rw [HR1.out]
      replace PK := Lib.hid (PK.out.later hb1)
      clear hb1
      obtain ⟨c7, c8, f7, f8, a0, a1, g0, g1, hB⟩ := PK.out
      go_wp2_with fail
      replace PK := Lib.hid (PK.out.set0 (.int .i64 n))
      clear c7 c8 f7 f8 a0 a1 g0 g1 hB
      rw [HQ.out]
      refine (readNumber_any _ _ hQ).mono ?_
      rintro e w2 ⟨rfl, hb2⟩
      rw [HR2.out]
      replace PK := Lib.hid (PK.out.later hb2)
      clear hb2
      obtain ⟨c7, c8, f7, f8, a0, a1, g0, g1, hB⟩ := PK.out
      go_wp2_with fail
      replace PK := Lib.hid (PK.out.set1 (.int .i64 d))
      clear c7 c8 f7 f8 a0 a1 g0 g1 hB
      obtain ⟨c7, c8, f7, f8, a0, a1, g0, g1, hB⟩ := PK.out
      clear c7 c8 f7 f8 g0 g1 hB
      refine (refText_any _ _ _ in1 in2).mono ?_
      rintro e w3 ⟨rfl, hb3⟩
      rw [HT.out.1, HT.out.2]
      clear a0 a1
      replace PK := Lib.hid (PK.out.later hb3)
      clear hb3
      obtain ⟨c7, c8, f7, f8, a0, a1, g0, g1, hB⟩ := PK.out
      have m0 := stored_0 (x := .int .i64 n) (y := .int .i64 d) (held_of c7)
      have m1 := stored_1 (x := .int .i64 n) (y := .int .i64 d) (held_of c8)
      go_wp2
      exact bodyPost_ret (v := rv n d 0) (by simp [results, Tryd.results15, go_sem, m0, m1]) rfl ⟨rfl, stored_below hB (Nat.le_refl _)⟩

set_option maxRecDepth 100000 in
set_option maxHeartbeats 2000000 in
theorem refRead_n1 (s : ByteArray) (w : World) (n : Int) (T : List UInt8) (e : Int) (hs : s.size ≤ 30) (HN : Hid (∀ k (h : k < s.size), ((s[k].toNat : Int) != 47) = true)) (in1 : Rat.I64 n) (HR1 : Hid (readNum s.data.toList = (n, false))) (HT : Hid (txtV (Rat.right n 1) n 1 = T ∧ floorE (Rat.right n 1) = e)) :
    Calls Tryd.prog 15 #[.string s] w fun e w' => e = .returned (rv 0 0 12) ∧ Below w.heap.size w w' := by
  have PK := Lib.hid (Pack.start w 23)
  have i1 : Rat.I64 1 := by unfold Rat.I64; omega
  go_enter Tryd.func15, Tryd.ntmps15
  go_wp2
  go_loop [5] (AtRel s.size) (fun i => s.size - (intOf i).toNat)
  case atStart => exact ⟨0, Nat.zero_le _, rfl⟩
  case round =>
    obtain ⟨k, hk, rfl⟩ := hrel
    by_cases hlt : k < s.size
    · have hks := hlt
      have h1 := HN.out k hks
      go_wp2
      refine ⟨⟨k + 1, by omega, by go_num⟩, by simp [intOf]; omega⟩
    · obtain rfl : k = s.size := by omega
      go_wp2_with fail
      refine (readNumber_any _ _ hs).mono ?_
      rintro e w1 ⟨rfl, hb1⟩
      rw [HR1.out]
      replace PK := Lib.hid (PK.out.later hb1)
      clear hb1
      obtain ⟨c7, c8, f7, f8, a0, a1, g0, g1, hB⟩ := PK.out
      go_wp2_with fail
      replace PK := Lib.hid (PK.out.set0 (.int .i64 n))
      clear c7 c8 f7 f8 a0 a1 g0 g1 hB
      obtain ⟨c7, c8, f7, f8, a0, a1, g0, g1, hB⟩ := PK.out
      clear c7 c8 f7 f8 g0 g1 hB
      refine (refText_any _ _ _ in1 i1).mono ?_
      rintro e w3 ⟨rfl, hb3⟩
      rw [HT.out.1, HT.out.2]
      clear a0 a1
      replace PK := Lib.hid (PK.out.later hb3)
      clear hb3
      obtain ⟨c7, c8, f7, f8, a0, a1, g0, g1, hB⟩ := PK.out
      have m0 := stored_0 (x := .int .i64 0) (y := .int .i64 0) (held_of c7)
      have m1 := stored_1 (x := .int .i64 0) (y := .int .i64 0) (held_of c8)
      go_wp2
      exact bodyPost_ret (v := rv 0 0 12) (by simp [results, Tryd.results15, go_sem, m0, m1]) rfl ⟨rfl, stored_below hB (Nat.le_refl _)⟩

set_option maxRecDepth 100000 in
set_option maxHeartbeats 2000000 in
theorem refRead_n3 (s : ByteArray) (w : World) (n : Int) (T : List UInt8) (hs : s.size ≤ 30) (HN : Hid (∀ k (h : k < s.size), ((s[k].toNat : Int) != 47) = true)) (in1 : Rat.I64 n) (HR1 : Hid (readNum s.data.toList = (n, true))) (HT : Hid (txtV (Rat.right n 1) n 1 = T ∧ floorE (Rat.right n 1) = 10)) :
    Calls Tryd.prog 15 #[.string s] w fun e w' => e = .returned (rv 0 0 12) ∧ Below w.heap.size w w' := by
  have PK := Lib.hid (Pack.start w 23)
  have i1 : Rat.I64 1 := by unfold Rat.I64; omega
  go_enter Tryd.func15, Tryd.ntmps15
  go_wp2
  go_loop [5] (AtRel s.size) (fun i => s.size - (intOf i).toNat)
  case atStart => exact ⟨0, Nat.zero_le _, rfl⟩
  case round =>
    obtain ⟨k, hk, rfl⟩ := hrel
    by_cases hlt : k < s.size
    · have hks := hlt
      have h1 := HN.out k hks
      go_wp2
      refine ⟨⟨k + 1, by omega, by go_num⟩, by simp [intOf]; omega⟩
    · obtain rfl : k = s.size := by omega
      go_wp2_with fail
      refine (readNumber_any _ _ hs).mono ?_
      rintro e w1 ⟨rfl, hb1⟩
      rw [HR1.out]
      replace PK := Lib.hid (PK.out.later hb1)
      clear hb1
      obtain ⟨c7, c8, f7, f8, a0, a1, g0, g1, hB⟩ := PK.out
      go_wp2_with fail
      replace PK := Lib.hid (PK.out.set0 (.int .i64 n))
      clear c7 c8 f7 f8 a0 a1 g0 g1 hB
      obtain ⟨c7, c8, f7, f8, a0, a1, g0, g1, hB⟩ := PK.out
      clear c7 c8 f7 f8 g0 g1 hB
      refine (refText_any _ _ _ in1 i1).mono ?_
      rintro e w3 ⟨rfl, hb3⟩
      rw [HT.out.1, HT.out.2]
      clear a0 a1
      replace PK := Lib.hid (PK.out.later hb3)
      clear hb3
      obtain ⟨c7, c8, f7, f8, a0, a1, g0, g1, hB⟩ := PK.out
      have m0 := stored_0 (x := .int .i64 0) (y := .int .i64 0) (held_of c7)
      have m1 := stored_1 (x := .int .i64 0) (y := .int .i64 0) (held_of c8)
      go_wp2
      exact bodyPost_ret (v := rv 0 0 12) (by simp [results, Tryd.results15, go_sem, m0, m1]) rfl ⟨rfl, stored_below hB (Nat.le_refl _)⟩

set_option maxRecDepth 100000 in
set_option maxHeartbeats 2000000 in
theorem refRead_n4 (s : ByteArray) (w : World) (n : Int) (T : List UInt8) (hs : s.size ≤ 30) (HN : Hid (∀ k (h : k < s.size), ((s[k].toNat : Int) != 47) = true)) (in1 : Rat.I64 n) (HR1 : Hid (readNum s.data.toList = (n, true))) (HT : Hid (txtV (Rat.right n 1) n 1 = T ∧ floorE (Rat.right n 1) = 0)) (hl : (T == s.toList) = false) :
    Calls Tryd.prog 15 #[.string s] w fun e w' => e = .returned (rv 0 0 12) ∧ Below w.heap.size w w' := by
  have PK := Lib.hid (Pack.start w 23)
  have i1 : Rat.I64 1 := by unfold Rat.I64; omega
  go_enter Tryd.func15, Tryd.ntmps15
  go_wp2
  go_loop [5] (AtRel s.size) (fun i => s.size - (intOf i).toNat)
  case atStart => exact ⟨0, Nat.zero_le _, rfl⟩
  case round =>
    obtain ⟨k, hk, rfl⟩ := hrel
    by_cases hlt : k < s.size
    · have hks := hlt
      have h1 := HN.out k hks
      go_wp2
      refine ⟨⟨k + 1, by omega, by go_num⟩, by simp [intOf]; omega⟩
    · obtain rfl : k = s.size := by omega
      go_wp2_with fail
      refine (readNumber_any _ _ hs).mono ?_
      rintro e w1 ⟨rfl, hb1⟩
      rw [HR1.out]
      replace PK := Lib.hid (PK.out.later hb1)
      clear hb1
      obtain ⟨c7, c8, f7, f8, a0, a1, g0, g1, hB⟩ := PK.out
      go_wp2_with fail
      replace PK := Lib.hid (PK.out.set0 (.int .i64 n))
      clear c7 c8 f7 f8 a0 a1 g0 g1 hB
      obtain ⟨c7, c8, f7, f8, a0, a1, g0, g1, hB⟩ := PK.out
      clear c7 c8 f7 f8 g0 g1 hB
      refine (refText_any _ _ _ in1 i1).mono ?_
      rintro e w3 ⟨rfl, hb3⟩
      rw [HT.out.1, HT.out.2]
      clear a0 a1
      replace PK := Lib.hid (PK.out.later hb3)
      clear hb3
      obtain ⟨c7, c8, f7, f8, a0, a1, g0, g1, hB⟩ := PK.out
      have m0 := stored_0 (x := .int .i64 0) (y := .int .i64 0) (held_of c7)
      have m1 := stored_1 (x := .int .i64 0) (y := .int .i64 0) (held_of c8)
      go_wp2
      exact bodyPost_ret (v := rv 0 0 12) (by simp [results, Tryd.results15, go_sem, m0, m1]) rfl ⟨rfl, stored_below hB (Nat.le_refl _)⟩

set_option maxRecDepth 100000 in
set_option maxHeartbeats 2000000 in
theorem refRead_n5 (s : ByteArray) (w : World) (n : Int) (T : List UInt8) (hs : s.size ≤ 30) (HN : Hid (∀ k (h : k < s.size), ((s[k].toNat : Int) != 47) = true)) (in1 : Rat.I64 n) (HR1 : Hid (readNum s.data.toList = (n, true))) (HT : Hid (txtV (Rat.right n 1) n 1 = T ∧ floorE (Rat.right n 1) = 0)) (hl : (T == s.toList) = true) :
    Calls Tryd.prog 15 #[.string s] w fun e w' => e = .returned (rv n 1 0) ∧ Below w.heap.size w w' := by
  have PK := Lib.hid (Pack.start w 23)
  have i1 : Rat.I64 1 := by unfold Rat.I64; omega
  go_enter Tryd.func15, Tryd.ntmps15
  go_wp2
  go_loop [5] (AtRel s.size) (fun i => s.size - (intOf i).toNat)
  case atStart => exact ⟨0, Nat.zero_le _, rfl⟩
  case round =>
    obtain ⟨k, hk, rfl⟩ := hrel
    by_cases hlt : k < s.size
    · have hks := hlt
      have h1 := HN.out k hks
      go_wp2
      refine ⟨⟨k + 1, by omega, by go_num⟩, by simp [intOf]; omega⟩
    · obtain rfl : k = s.size := by omega
      go_wp2_with fail
      refine (readNumber_any _ _ hs).mono ?_
      rintro e w1 ⟨rfl, hb1⟩
      rw [HR1.out]
      replace PK := Lib.hid (PK.out.later hb1)
      clear hb1
      obtain ⟨c7, c8, f7, f8, a0, a1, g0, g1, hB⟩ := PK.out
      go_wp2_with fail
      replace PK := Lib.hid (PK.out.set0 (.int .i64 n))
      clear c7 c8 f7 f8 a0 a1 g0 g1 hB
      obtain ⟨c7, c8, f7, f8, a0, a1, g0, g1, hB⟩ := PK.out
      clear c7 c8 f7 f8 g0 g1 hB
      refine (refText_any _ _ _ in1 i1).mono ?_
      rintro e w3 ⟨rfl, hb3⟩
      rw [HT.out.1, HT.out.2]
      clear a0 a1
      replace PK := Lib.hid (PK.out.later hb3)
      clear hb3
      obtain ⟨c7, c8, f7, f8, a0, a1, g0, g1, hB⟩ := PK.out
      have m0 := stored_0 (x := .int .i64 n) (y := .int .i64 1) (held_of c7)
      have m1 := stored_1 (x := .int .i64 n) (y := .int .i64 1) (held_of c8)
      go_wp2
      exact bodyPost_ret (v := rv n 1 0) (by simp [results, Tryd.results15, go_sem, m0, m1]) rfl ⟨rfl, stored_below hB (Nat.le_refl _)⟩

theorem index_cons {b : UInt8} (hb : ¬ (47 : UInt8) = b) (l : List UInt8) : Lib.index (b :: l) [47] = if Lib.index l [47] = -1 then -1 else Lib.index l [47] + 1 := by
  simp [Lib.index, List.isPrefixOf, hb]
theorem index_here (l : List UInt8) : Lib.index ((47 : UInt8) :: l) [47] = 0 := by simp [Lib.index, List.isPrefixOf]
theorem index_found : ∀ (l : List UInt8), 0 ≤ Lib.index l [47] → ∃ K : Nat, Lib.index l [47] = K ∧ l[K]? = some 47 ∧ ∀ k, k < K → l[k]? ≠ some 47
  | [], h => by simp [Lib.index] at h
  | b :: l, h => by
    by_cases hb : (47 : UInt8) = b
    · subst hb
      exact ⟨0, index_here l, rfl, fun k hk => by omega⟩
    · rw [index_cons hb] at h ⊢
      by_cases h1 : Lib.index l [47] = -1
      · rw [if_pos h1] at h; omega
      · rw [if_neg h1] at h ⊢
        have hge := Lib.index_ge l [47]
        obtain ⟨K, e1, e2, e3⟩ := index_found l (by omega)
        refine ⟨K + 1, by rw [e1]; omega, by simpa using e2, fun k hk => ?_⟩
        cases k with
        | zero => simp; exact fun e => hb e.symm
        | succ k => simpa using e3 k (by omega)
theorem index_miss : ∀ (l : List UInt8), ¬ 0 ≤ Lib.index l [47] → ∀ k : Nat, l[k]? ≠ some 47
  | [], _, k => by simp
  | b :: l, h, k => by
    by_cases hb : (47 : UInt8) = b
    · subst hb; rw [index_here] at h; omega
    · rw [index_cons hb] at h
      have hge := Lib.index_ge l [47]
      have hm : ¬ 0 ≤ Lib.index l [47] := by
        intro h0
        rw [if_neg (by omega)] at h
        omega
      cases k with
      | zero => simp; exact fun e => hb e.symm
      | succ k => simpa using index_miss l hm k
theorem at_list (s : ByteArray) (k : Nat) (h : k < s.size) : s.data.toList[k]? = some s[k] := by
  rw [List.getElem?_eq_getElem (by simpa using h)]; rfl
theorem ne47 {c : UInt8} (h : some c ≠ some (47 : UInt8)) : ((c.toNat : Int) != 47) = true := by
  have : ¬ c.toNat = 47 := fun e => h (by rw [show c = 47 from UInt8.toNat_inj.1 e])
  simp; omega

theorem refRead_any (s : ByteArray) (w : World) (hs : s.size ≤ 30) :
    Calls Tryd.prog 15 #[.string s] w fun e w' => e = .returned (rdV (rd s.data.toList)) ∧ Below w.heap.size w w' := by
  have hsz := Lib.size_eq s
  have htl : s.toList = s.data.toList := ByteArray.toList_eq s
  rw [← rd2_eq]
  by_cases h0 : 0 ≤ Lib.index s.data.toList [47]
  · obtain ⟨K, e1, e2, e3⟩ := index_found _ h0
    have hK : K < s.size := by
      rw [hsz]
      rcases Nat.lt_or_ge K s.data.toList.length with h | h
      · exact h
      · rw [List.getElem?_eq_none h] at e2; cases e2
    have ec : Lib.cut s.data.toList [47] = (s.data.toList.take K, s.data.toList.drop (K + 1), true) := by
      unfold Lib.cut; rw [if_pos h0, e1]; simp
    have eP : (s.extract 0 K).data.toList = s.data.toList.take K := by rw [Lib.extract_data]; simp
    have eQ : (s.extract (K + 1) s.size).data.toList = s.data.toList.drop (K + 1) := by
      rw [Lib.extract_data, List.take_of_length_le]; simp
    have h47 : ((s[K].toNat : Int) != 47) = false := by
      rw [at_list s K hK] at e2
      simp only [Option.some.injEq] at e2
      rw [e2]; rfl
    have hN : ∀ k (h : k < s.size), k < K → ((s[k].toNat : Int) != 47) = true := fun k h hk => ne47 (by rw [← at_list s k h]; exact e3 k hk)
    rw [ec]
    show Calls _ _ _ _ fun e w' => e = .returned (rdV (rd2 s.data.toList (readNum (s.data.toList.take K)) (readNum (s.data.toList.drop (K + 1))))) ∧ Below w.heap.size w w'
    rw [← eP, ← eQ]
    have hP : (s.extract 0 K).size ≤ 30 := by rw [ByteArray.size_extract]; omega
    have hQ : (s.extract (K + 1) s.size).size ≤ 30 := by rw [ByteArray.size_extract]; omega
    have i1 := readNum_i64 (s.extract 0 K).data.toList
    have i2 := readNum_i64 (s.extract (K + 1) s.size).data.toList
    generalize hp : s.extract 0 K = P at *
    generalize hq : s.extract (K + 1) s.size = Q at *
    generalize hr1 : readNum P.data.toList = r1 at *
    generalize hr2 : readNum Q.data.toList = r2 at *
    obtain ⟨n, ok⟩ := r1
    obtain ⟨d, is⟩ := r2
    cases ok with
    | false => exact refRead_f1 s P w K n Q d is _ _ hs hP (Lib.hid hp) (Lib.hid hN) i1 (Lib.hid hr1) hK h47 hQ (Lib.hid hq) i2 (Lib.hid hr2) (Lib.hid ⟨rfl, rfl⟩)
    | true =>
      cases is with
      | false => exact refRead_f2 s P w K n Q d _ _ hs hP (Lib.hid hp) (Lib.hid hN) i1 (Lib.hid hr1) hK h47 hQ (Lib.hid hq) i2 (Lib.hid hr2) (Lib.hid ⟨rfl, rfl⟩)
      | true =>
        cases hr : Rat.right n d with
        | false =>
          have e : rd2 s.data.toList (n, true) (d, true) = none := by simp [rd2, hr]
          rw [e]
          exact refRead_f3 s P w K n Q d _ hs hP (Lib.hid hp) (Lib.hid hN) i1 (Lib.hid hr1) hK h47 hQ (Lib.hid hq) i2 (Lib.hid hr2) (Lib.hid ⟨rfl, by rw [hr]; rfl⟩)
        | true =>
          cases hT : (txt n d == s.data.toList) with
          | false =>
            have e : rd2 s.data.toList (n, true) (d, true) = none := by simp [rd2, hT]
            rw [e]
            exact refRead_f4 s P w K n Q d (txt n d) hs hP (Lib.hid hp) (Lib.hid hN) i1 (Lib.hid hr1) hK h47 hQ (Lib.hid hq) i2 (Lib.hid hr2) (Lib.hid ⟨by rw [hr]; rfl, by rw [hr]; rfl⟩) (by rw [htl]; exact hT)
          | true =>
            have e : rd2 s.data.toList (n, true) (d, true) = some (n, d) := by simp only [rd2, hr, hT]; rfl
            rw [e]
            exact refRead_f5 s P w K n Q d (txt n d) hs hP (Lib.hid hp) (Lib.hid hN) i1 (Lib.hid hr1) hK h47 hQ (Lib.hid hq) i2 (Lib.hid hr2) (Lib.hid ⟨by rw [hr]; rfl, by rw [hr]; rfl⟩) (by rw [htl]; exact hT)
  · have em := index_miss _ h0
    have ec : Lib.cut s.data.toList [47] = (s.data.toList, [], false) := by unfold Lib.cut; rw [if_neg h0]
    have hN : ∀ k (h : k < s.size), ((s[k].toNat : Int) != 47) = true := fun k h => ne47 (by rw [← at_list s k h]; exact em k)
    rw [ec]
    show Calls _ _ _ _ fun e w' => e = .returned (rdV (rd2 s.data.toList (readNum s.data.toList) (1, true))) ∧ Below w.heap.size w w'
    have i1 := readNum_i64 s.data.toList
    generalize hr1 : readNum s.data.toList = r1 at *
    obtain ⟨n, ok⟩ := r1
    cases ok with
    | false => exact refRead_n1 s w n _ _ hs (Lib.hid hN) i1 (Lib.hid hr1) (Lib.hid ⟨rfl, rfl⟩)
    | true =>
      cases hr : Rat.right n 1 with
      | false =>
        have e : rd2 s.data.toList (n, true) (1, true) = none := by simp [rd2, hr]
        rw [e]
        exact refRead_n3 s w n _ hs (Lib.hid hN) i1 (Lib.hid hr1) (Lib.hid ⟨rfl, by rw [hr]; rfl⟩)
      | true =>
        cases hT : (txt n 1 == s.data.toList) with
        | false =>
          have e : rd2 s.data.toList (n, true) (1, true) = none := by simp [rd2, hT]
          rw [e]
          exact refRead_n4 s w n (txt n 1) hs (Lib.hid hN) i1 (Lib.hid hr1) (Lib.hid ⟨by rw [hr]; rfl, by rw [hr]; rfl⟩) (by rw [htl]; exact hT)
        | true =>
          have e : rd2 s.data.toList (n, true) (1, true) = some (n, 1) := by simp only [rd2, hr, hT]; rfl
          rw [e]
          exact refRead_n5 s w n (txt n 1) hs (Lib.hid hN) i1 (Lib.hid hr1) (Lib.hid ⟨by rw [hr]; rfl, by rw [hr]; rfl⟩) (by rw [htl]; exact hT)
end Go.Proofs.YtgndmaihhkhnpaaDoor
