/-
  The contracts of the reference's digits, Number and Text.
-/
import Derived.Test.YtejiifkenanodaaGreatDoorRatTextFacts
namespace Go.Proofs.YtejiifkenanodaaGreatDoor
open Go.RowKit
theorem conv_byte (c : UInt8) (W : World) (k : Nat) (h : W.cell? ⟨k, 0, none⟩ = some (.int .u8 (c.toNat : Int))) : (convert 98 9 (.slice (some ⟨k, 0, none⟩) 1 1)).run Tryz.prog W = .ok (.string ⟨#[c]⟩) W :=
  run_convert_bytes_back W 98 9 5 ⟨k, 0, none⟩ 1 [c] Tryz.underlying98 Tryz.underlying5 Tryz.underlying9 (fun j hj => by
    match j, hj with
    | 0, _ => exact h)

def DigRel (n0 : Nat) (w : World) (x y : Value) (w' : World) : Prop := ∃ (u : Nat) (t : List UInt8), x = .int .u64 u ∧ y = .string ⟨t.toArray⟩ ∧ Lib.decDigits u ++ t = Lib.decDigits n0 ∧ U64 u ∧ Below w.heap.size w w'

theorem conv_digit (k : Nat) (hk : k < 10) (X : Int) (hX : X = 48 + (k : Int)) (W : World) :
    (convert 98 9 (.slice (some ⟨W.heap.size, 0, none⟩) 1 1)).run Tryz.prog (W.alloc (.cells #[.int .u8 X] 5)) = .ok (.string ⟨#[UInt8.ofNat (48 + k)]⟩) (W.alloc (.cells #[.int .u8 X] 5)) := by
  refine conv_byte _ _ _ ?_
  rw [digit_toNat hk, hX]
  go_simp
theorem dig_len {u n0 : Nat} {t : List UInt8} (hn : U64 n0) (h : Lib.decDigits u ++ t = Lib.decDigits n0) : t.length ≤ 20 := by
  have h1 := congrArg List.length h
  rw [List.length_append, Lib.decDigits_length n0] at h1
  have := Lib.nDigits_le20 n0 (by unfold U64 at hn; omega)
  omega

set_option maxRecDepth 100000 in
set_option maxHeartbeats 1000000 in
theorem digits_any (n0 : Nat) (w : World) (hn : U64 n0) :
    Calls Tryz.prog 74 #[.int .u64 (n0 : Int)] w fun e w' => e = .returned (.string ⟨(Lib.decDigits n0).toArray⟩) ∧ Below w.heap.size w w' := by
  go_enter Tryz.func74, Tryz.ntmps74
  go_wp2
  go_loopw [0, 3] (DigRel n0 w) (fun x _ _ => (intOf x).toNat)
  case atStart => exact ⟨n0, [], rfl, rfl, by simp, hn, Below.refl _ _⟩
  case round =>
    obtain ⟨u, t, rfl, rfl, ht, hu, hB⟩ := hrel
    have hl := dig_len hn ht
    have HT := Lib.hid ht
    clear ht
    by_cases h9 : 9 < u
    · have hc := conv_digit (u % 10) (by omega) (48 + (u : Int) % 10) (by omega) wr
      have ha : ∀ w : World, (Op.stringOp .add ⟨#[UInt8.ofNat (48 + u % 10)]⟩ ⟨t.toArray⟩).run Tryz.prog w = .ok (.string ⟨(UInt8.ofNat (48 + u % 10) :: t).toArray⟩) w := fun w => run_string_add_lists w [_] t (by simp) (by omega)
      have HE := Lib.hid (decDigits_eq' u)
      have hq : IntKind.u64.wrap ((u : Int) / 10) = (u : Int) / 10 := wrap_quo (g := 10) hu
      generalize UInt8.ofNat (48 + u % 10) = c at *
      go_wp2
      refine ⟨⟨u / 10, c :: t, by simp, by simp, ?_, by clear hq hc; unfold U64 at *; omega, hB.alloc hB.size _⟩, by clear hq hc; simp [intOf]; omega⟩
      have h1 := HT.out
      rw [HE.out, if_neg (by omega)] at h1
      rw [← h1]
      simp
    · have hc := conv_digit u (by omega) (48 + (u : Int)) (by omega) wr
      have ha : ∀ w : World, (Op.stringOp .add ⟨#[UInt8.ofNat (48 + u)]⟩ ⟨t.toArray⟩).run Tryz.prog w = .ok (.string ⟨(UInt8.ofNat (48 + u) :: t).toArray⟩) w := fun w => run_string_add_lists w [_] t (by simp) (by omega)
      have HE := Lib.hid (decDigits_eq' u)
      generalize UInt8.ofNat (48 + u) = c at *
      go_wp2
      go_ret
      refine ⟨?_, hB.alloc hB.size _⟩
      have h1 := HT.out
      rw [HE.out, if_pos (by omega)] at h1
      rw [← h1]
      rfl

set_option maxRecDepth 100000 in
set_option maxHeartbeats 1000000 in
theorem number_any (n : Int) (w : World) (hn : Rat.I64 n) :
    Calls Tryz.prog 45 #[.int .i64 n] w fun e w' => e = .returned (.string ⟨(Lib.itoa n).toArray⟩) ∧ Below w.heap.size w w' := by
  by_cases h0 : n < 0
  · have HI : Hid (Lib.itoa n = 45 :: Lib.decDigits n.natAbs) := Lib.hid (by unfold Lib.itoa; rw [if_pos h0])
    have hl : (Lib.decDigits n.natAbs).length ≤ 20 := by rw [Lib.decDigits_length]; exact Lib.nDigits_le20 _ (by have := u64_abs hn; unfold U64 at this; omega)
    go_enter Tryz.func45, Tryz.ntmps45
    go_wp2_with fail
    refine (size_any _ _ hn).mono ?_
    rintro e w1 ⟨rfl, rfl⟩
    go_wp2_with fail
    refine (digits_any _ _ (u64_abs hn)).mono ?_
    rintro e w2 ⟨rfl, hb⟩
    have ha : ∀ w : World, (Op.stringOp .add ⟨#[45]⟩ ⟨(Lib.decDigits n.natAbs).toArray⟩).run Tryz.prog w = .ok (.string ⟨(45 :: Lib.decDigits n.natAbs).toArray⟩) w := fun w => run_string_add_lists w [45] _ (by decide) (by omega)
    generalize Lib.decDigits n.natAbs = t at *
    go_wp2
    go_ret
    rw [HI.out]
    exact ⟨rfl, hb⟩
  · have HI : Hid (Lib.itoa n = Lib.decDigits n.natAbs) := Lib.hid (by unfold Lib.itoa; rw [if_neg h0]; congr 1; omega)
    have hw := wrap_pos hn (by omega)
    go_enter Tryz.func45, Tryz.ntmps45
    go_wp2_with fail
    refine (digits_any n.natAbs _ (u64_abs hn)).mono ?_
    rintro e w2 ⟨rfl, hb⟩
    go_wp2
    go_ret
    rw [HI.out]
    exact ⟨rfl, hb⟩
end Go.Proofs.YtejiifkenanodaaGreatDoor
