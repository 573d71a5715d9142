/-
  The contract of value.Split in one; the library's contracts; the contracts of value.baseText and value.Text.
-/
import Derived.Test.YtejiifkenanodaaGreatDoorValF
import Derived.Test.YtejiifkenanodaaGreatDoorValText
import Derived.Test.YtejiifkenanodaaGreatDoorRatK
import Derived.Test.YtejiifkenanodaaGreatDoorRatFacts
namespace Go.Proofs.YtejiifkenanodaaGreatDoor
open Go.RowKit

theorem cmp64 {x y : Int} (h : Rat.right x y = true) (w : World) : Calls Tryz.prog 31 #[rt x y, rt 64 1] w fun ed w' => ed = .returned (.int .i64 (Rat.sgn (x - 64 * y))) ∧ Below w.heap.size w w' := by
  have := compare_any x y 64 1 w
  rw [h, show Rat.right 64 1 = true by decide +kernel, Int.mul_one] at this
  exact this
theorem split_any (x y : Int) (w : World) (hR : Vars w) : Calls Tryz.prog 30 #[rt x y] w (SplPost x y w) := by
  have no : Val.may x y = false → ∀ W, SplV x y W (.slice none 0 0) 41 := fun h W => .inl ⟨by unfold Val.spK; rw [h]; rfl, rfl, rfl⟩
  cases h : Rat.right x y
  · exact (split_no1 x y w hR h).mono fun ed w' ⟨he, hb⟩ => ⟨⟨_, _, he, no (by unfold Val.may; rw [h]; rfl) _⟩, hb⟩
  · by_cases h0 : x ≤ 0
    · exact (split_no2 x y w hR h h0).mono fun ed w' ⟨he, hb⟩ => ⟨⟨_, _, he, no (by unfold Val.may; rw [h, show decide (0 < x) = false from decide_eq_false (by omega)]; rfl) _⟩, hb⟩
    · rcases sgn_cases (x - 64 * y) with ⟨a, b⟩ | ⟨a, b⟩ | ⟨a, b⟩
      · exact split_yes x y w hR _ (by unfold Val.may; rw [h, decide_eq_true (show 0 < x by omega), decide_eq_true (show x ≤ 64 * y by omega)]; rfl) h h0 (Lib.hid (cmp64 h)) (by omega)
      · exact split_yes x y w hR _ (by unfold Val.may; rw [h, decide_eq_true (show 0 < x by omega), decide_eq_true (show x ≤ 64 * y by omega)]; rfl) h h0 (Lib.hid (cmp64 h)) (by omega)
      · exact (split_no3 x y w hR _ h h0 (Lib.hid (cmp64 h)) (by omega)).mono fun ed w' ⟨he, hb⟩ => ⟨⟨_, _, he, no (by unfold Val.may; rw [h, show decide (x ≤ 64 * y) = false from decide_eq_false (by omega)]; simp) _⟩, hb⟩

/-! ### The library -/
theorem itoa_call (n : Int) (w : World) (hn : Rat.I64 n) (hR : Ready w) :
    Calls Tryz.prog 44 #[.int .i64 n] w fun e w' => e = .returned (.string ⟨(Lib.itoa n).toArray⟩) ∧ Below w.heap.size w w' :=
  (Tryz.strconv_Itoa n hn.1 hn.2 w hR.tab).mono fun _ _ ⟨he, k, os, hw⟩ => ⟨he, by rw [hw]; exact Lib.below_grow _ _ (Nat.le_refl _) _ _⟩
theorem cut_call (s : ByteArray) (c : UInt8) {l : List UInt8} (hl : s.data.toList = l) {f b : List UInt8} {t : Bool} (h : Lib.cut l [c] = (f, b, t)) (w : World) (hs : s.size ≤ 1000) (hR : Ready w) :
    Calls Tryz.prog 33 #[.string s, .string ⟨#[c]⟩] w fun e w' => e = .returned (.tuple #[.string ⟨f.toArray⟩, .string ⟨b.toArray⟩, .bool t]) ∧ Below w.heap.size w w' := by
  obtain ⟨m, hm⟩ := hR.mx
  refine (Tryz.strings_Cut s ⟨#[c]⟩ m w (by omega) hm).mono ?_
  rintro e w' ⟨he, k, hk⟩
  rw [hl, show (ByteArray.mk #[c]).data.toList = [c] from rfl, h] at he
  exact ⟨he, by rw [hk]; exact below_drewN (Below.refl _ _) k⟩
theorem trim_call (s : ByteArray) {l g : List UInt8} (hl : s.data.toList = l) (h : Lib.trimRightB l 46 = g) (w : World) (hs : s.size ≤ 1000) :
    Calls Tryz.prog 34 #[.string s, .string ⟨#[46]⟩] w fun e w' => e = .returned (.string ⟨g.toArray⟩) ∧ Below w.heap.size w w' := by
  refine (Tryz.strings_TrimRight_one s 46 (by decide) w (by omega)).mono ?_
  rintro e w' ⟨he, hw⟩
  rw [hl, h] at he
  exact ⟨he, by rw [hw]; exact Below.refl _ _⟩
theorem repeat_dots (c : Nat) : Lib.repeatL [46] c = List.replicate c 46 := by
  induction c with
  | zero => rfl
  | succ c ih => rw [Lib.repeatL, ih]; rfl
theorem repeat_call {d : Int} (h0 : 0 ≤ d) (h2 : d ≤ 2) (w : World) :
    Calls Tryz.prog 42 #[.string ⟨#[46]⟩, .int .i64 d] w fun e w' => e = .returned (.string ⟨(List.replicate d.toNat 46).toArray⟩) ∧ Below w.heap.size w w' := by
  have := Tryz.strings_Repeat ⟨#[46]⟩ d.toNat w (by omega) (by show 1 * d.toNat ≤ _; omega)
  rw [show ((d.toNat : Nat) : Int) = d by omega, show (ByteArray.mk #[46]).data.toList = [46] from rfl, repeat_dots] at this
  exact this

set_option maxRecDepth 100000 in
set_option maxHeartbeats 4000000 in
theorem baseText_0 (w : World) (hR : Vars w) :
    Calls Tryz.prog 41 #[.int .i64 0] w fun ed w' => ed = .returned (.string ⟨(Lib.itoa 1).toArray⟩) ∧ Below w.heap.size w w' := by
  have ga := hR.base 0 (by decide)
  rw [show Val.ba ((0 : Nat) : Int) = 64 by decide] at ga
  have hB0 : Below w.heap.size w w := Below.refl _ _
  go_enter Tryz.func41, Tryz.ntmps41
  go_wp2_with fail
  have hR' := hR.below hB0
  refine (itoa_call 1 _ (by unfold Rat.I64; omega) hR'.lib).mono ?_
  rintro e w1 ⟨rfl, hb1⟩
  clear hR'
  have hs1 := hb1
  have hB1 := below_two hB0 hs1
  clear hB0 hs1
  go_wp2
  go_ret
  exact ⟨rfl, hB1⟩

set_option maxRecDepth 100000 in
set_option maxHeartbeats 4000000 in
theorem baseText_1 (w : World) (hR : Vars w) :
    Calls Tryz.prog 41 #[.int .i64 1] w fun ed w' => ed = .returned (.string ⟨(Lib.itoa 2).toArray⟩) ∧ Below w.heap.size w w' := by
  have ga := hR.base 1 (by decide)
  rw [show Val.ba ((1 : Nat) : Int) = 32 by decide] at ga
  have hB0 : Below w.heap.size w w := Below.refl _ _
  go_enter Tryz.func41, Tryz.ntmps41
  go_wp2_with fail
  have hR' := hR.below hB0
  refine (itoa_call 2 _ (by unfold Rat.I64; omega) hR'.lib).mono ?_
  rintro e w1 ⟨rfl, hb1⟩
  clear hR'
  have hs1 := hb1
  have hB1 := below_two hB0 hs1
  clear hB0 hs1
  go_wp2
  go_ret
  exact ⟨rfl, hB1⟩

set_option maxRecDepth 100000 in
set_option maxHeartbeats 4000000 in
theorem baseText_2 (w : World) (hR : Vars w) :
    Calls Tryz.prog 41 #[.int .i64 2] w fun ed w' => ed = .returned (.string ⟨(Lib.itoa 4).toArray⟩) ∧ Below w.heap.size w w' := by
  have ga := hR.base 2 (by decide)
  rw [show Val.ba ((2 : Nat) : Int) = 16 by decide] at ga
  have hB0 : Below w.heap.size w w := Below.refl _ _
  go_enter Tryz.func41, Tryz.ntmps41
  go_wp2_with fail
  have hR' := hR.below hB0
  refine (itoa_call 4 _ (by unfold Rat.I64; omega) hR'.lib).mono ?_
  rintro e w1 ⟨rfl, hb1⟩
  clear hR'
  have hs1 := hb1
  have hB1 := below_two hB0 hs1
  clear hB0 hs1
  go_wp2
  go_ret
  exact ⟨rfl, hB1⟩

set_option maxRecDepth 100000 in
set_option maxHeartbeats 4000000 in
theorem baseText_3 (w : World) (hR : Vars w) :
    Calls Tryz.prog 41 #[.int .i64 3] w fun ed w' => ed = .returned (.string ⟨(Lib.itoa 8).toArray⟩) ∧ Below w.heap.size w w' := by
  have ga := hR.base 3 (by decide)
  rw [show Val.ba ((3 : Nat) : Int) = 8 by decide] at ga
  have hB0 : Below w.heap.size w w := Below.refl _ _
  go_enter Tryz.func41, Tryz.ntmps41
  go_wp2_with fail
  have hR' := hR.below hB0
  refine (itoa_call 8 _ (by unfold Rat.I64; omega) hR'.lib).mono ?_
  rintro e w1 ⟨rfl, hb1⟩
  clear hR'
  have hs1 := hb1
  have hB1 := below_two hB0 hs1
  clear hB0 hs1
  go_wp2
  go_ret
  exact ⟨rfl, hB1⟩

set_option maxRecDepth 100000 in
set_option maxHeartbeats 4000000 in
theorem baseText_4 (w : World) (hR : Vars w) :
    Calls Tryz.prog 41 #[.int .i64 4] w fun ed w' => ed = .returned (.string ⟨(Lib.itoa 16).toArray⟩) ∧ Below w.heap.size w w' := by
  have ga := hR.base 4 (by decide)
  rw [show Val.ba ((4 : Nat) : Int) = 4 by decide] at ga
  have hB0 : Below w.heap.size w w := Below.refl _ _
  go_enter Tryz.func41, Tryz.ntmps41
  go_wp2_with fail
  have hR' := hR.below hB0
  refine (itoa_call 16 _ (by unfold Rat.I64; omega) hR'.lib).mono ?_
  rintro e w1 ⟨rfl, hb1⟩
  clear hR'
  have hs1 := hb1
  have hB1 := below_two hB0 hs1
  clear hB0 hs1
  go_wp2
  go_ret
  exact ⟨rfl, hB1⟩

set_option maxRecDepth 100000 in
set_option maxHeartbeats 4000000 in
theorem baseText_5 (w : World) (hR : Vars w) :
    Calls Tryz.prog 41 #[.int .i64 5] w fun ed w' => ed = .returned (.string ⟨(Lib.itoa 32).toArray⟩) ∧ Below w.heap.size w w' := by
  have ga := hR.base 5 (by decide)
  rw [show Val.ba ((5 : Nat) : Int) = 2 by decide] at ga
  have hB0 : Below w.heap.size w w := Below.refl _ _
  go_enter Tryz.func41, Tryz.ntmps41
  go_wp2_with fail
  have hR' := hR.below hB0
  refine (itoa_call 32 _ (by unfold Rat.I64; omega) hR'.lib).mono ?_
  rintro e w1 ⟨rfl, hb1⟩
  clear hR'
  have hs1 := hb1
  have hB1 := below_two hB0 hs1
  clear hB0 hs1
  go_wp2
  go_ret
  exact ⟨rfl, hB1⟩

set_option maxRecDepth 100000 in
set_option maxHeartbeats 4000000 in
theorem baseText_6 (w : World) (hR : Vars w) :
    Calls Tryz.prog 41 #[.int .i64 6] w fun ed w' => ed = .returned (.string ⟨(Lib.itoa 64).toArray⟩) ∧ Below w.heap.size w w' := by
  have ga := hR.base 6 (by decide)
  rw [show Val.ba ((6 : Nat) : Int) = 1 by decide] at ga
  have hB0 : Below w.heap.size w w := Below.refl _ _
  go_enter Tryz.func41, Tryz.ntmps41
  go_wp2_with fail
  have hR' := hR.below hB0
  refine (itoa_call 64 _ (by unfold Rat.I64; omega) hR'.lib).mono ?_
  rintro e w1 ⟨rfl, hb1⟩
  clear hR'
  have hs1 := hb1
  have hB1 := below_two hB0 hs1
  clear hB0 hs1
  go_wp2
  go_ret
  exact ⟨rfl, hB1⟩

theorem baseText_any {b : Int} (h0 : 0 ≤ b) (h6 : b ≤ 6) (w : World) (hR : Vars w) :
    Calls Tryz.prog 41 #[.int .i64 b] w fun e w' => e = .returned (.string ⟨(Lib.itoa (Val.bt b)).toArray⟩) ∧ Below w.heap.size w w' := by
  obtain rfl | rfl | rfl | rfl | rfl | rfl | rfl : b = 0 ∨ b = 1 ∨ b = 2 ∨ b = 3 ∨ b = 4 ∨ b = 5 ∨ b = 6 := by omega
  · exact baseText_0 w hR
  · exact baseText_1 w hR
  · exact baseText_2 w hR
  · exact baseText_3 w hR
  · exact baseText_4 w hR
  · exact baseText_5 w hR
  · exact baseText_6 w hR
end Go.Proofs.YtejiifkenanodaaGreatDoor
