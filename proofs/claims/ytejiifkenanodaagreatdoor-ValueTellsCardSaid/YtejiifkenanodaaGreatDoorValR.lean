/-
  The contract of the reference's Cut.
-/
import Derived.Test.YtejiifkenanodaaGreatDoorValQ
import Derived.Deep.QuietTactic
namespace Go.Proofs.YtejiifkenanodaaGreatDoor
open Go.RowKit

def CtRel (K : Nat) (x : Value) : Prop := ∃ k : Nat, k ≤ K ∧ x = .int .i64 k

set_option maxRecDepth 100000 in
set_option maxHeartbeats 2000000 in
theorem vrefCut_no (s : ByteArray) (c : Int) (w : World) (hs : s.size ≤ 1000) (HN : Hid (∀ k (h : k < s.size), ((s[k].toNat : Int) == c) = false)) :
    Calls Tryz.prog 37 #[.string s, .int .u8 c] w fun e w' => e = .returned (.tuple #[.string s, .string ⟨#[]⟩, .bool false]) ∧ Below w.heap.size w w' := by
  go_enter Tryz.func37, Tryz.ntmps37
  go_wp2
  go_loop [7] (CtRel s.size) (fun i => s.size - (intOf i).toNat)
  case atStart => exact ⟨0, Nat.zero_le _, rfl⟩
  case round =>
    obtain ⟨k, hk, rfl⟩ := hrel
    by_cases hlt : k < s.size
    · have hks := hlt
      have h1 := HN.out k hks
      go_wp2
      refine ⟨⟨k + 1, by omega, by go_num⟩, by simp [intOf]; omega⟩
    · obtain rfl : k = s.size := by omega
      go_wp2
      refine bodyPost_ret (v := .tuple #[.string s, .string ⟨#[]⟩, .bool false]) (by simp [results, Tryz.results37, go_sem]) rfl ⟨rfl, Below.refl _ _⟩

set_option maxRecDepth 100000 in
set_option maxHeartbeats 2000000 in
theorem vrefCut_yes (s : ByteArray) (c : Int) (w : World) (hs : s.size ≤ 1000) (K : Nat) (P Q : ByteArray) (hK : K < s.size) (hc : ((s[K].toNat : Int) == c) = true) (HN : Hid (∀ k (h : k < s.size), k < K → ((s[k].toNat : Int) == c) = false)) (HP : Hid (s.extract 0 K = P)) (HQ : Hid (s.extract (K + 1) s.size = Q)) :
    Calls Tryz.prog 37 #[.string s, .int .u8 c] w fun e w' => e = .returned (.tuple #[.string P, .string Q, .bool true]) ∧ Below w.heap.size w w' := by
  go_enter Tryz.func37, Tryz.ntmps37
  go_wp2
  go_loop [7] (CtRel K) (fun i => s.size - (intOf i).toNat)
  case atStart => exact ⟨0, Nat.zero_le _, rfl⟩
  case round =>
    obtain ⟨k, hk, rfl⟩ := hrel
    by_cases hlt : k < K
    · have hks : k < s.size := by omega
      have h1 := HN.out k hks hlt
      go_wp2
      refine ⟨⟨k + 1, by omega, by go_num⟩, by simp [intOf]; omega⟩
    · obtain rfl : k = K := by omega
      go_wp2
      go_quiet (fail)
      rw [HP.out, HQ.out]
      go_wp2
      refine bodyPost_ret (v := .tuple #[.string P, .string Q, .bool true]) (by simp [results, Tryz.results37, go_sem]) rfl ⟨rfl, (by first | exact below_drewN (Below.refl _ _) _ | exact Below.refl _ _)⟩

theorem bytes_at (l : List UInt8) (k : Nat) (h : k < (ByteArray.mk l.toArray).size) (h' : k < l.length) : (ByteArray.mk l.toArray)[k]'h = l[k] := rfl
theorem byte_eq (x c : UInt8) : ((x.toNat : Int) == (c.toNat : Int)) = (x == c) := by
  by_cases h : x = c
  · subst h; simp
  · have : ¬ (x.toNat : Int) = (c.toNat : Int) := fun e => h (UInt8.toNat_inj.1 (by omega))
    rw [beq_eq_false_iff_ne.2 this, beq_eq_false_iff_ne.2 h]
/-- The reference's Cut is the library's. -/
theorem vrefCut_any (l : List UInt8) (c : UInt8) (w : World) (hs : l.length ≤ 1000) :
    Calls Tryz.prog 37 #[.string ⟨l.toArray⟩, .int .u8 (c.toNat : Int)] w fun e w' => e = .returned (.tuple #[.string ⟨(Lib.cut l [c]).1.toArray⟩, .string ⟨(Lib.cut l [c]).2.1.toArray⟩, .bool (Lib.cut l [c]).2.2]) ∧ Below w.heap.size w w' := by
  have hz : (ByteArray.mk l.toArray).size = l.length := rfl
  by_cases hm : c ∈ l
  · obtain ⟨p, r, rfl, hp⟩ := List.eq_append_cons_of_mem hm
    rw [Val.cut_here hp]
    have hl : p.length < (p ++ c :: r).length := by simp
    refine vrefCut_yes _ _ w (by rw [hz]; exact hs) p.length ⟨p.toArray⟩ ⟨r.toArray⟩ (by rw [hz]; exact hl) ?_ (Lib.hid ?_) (Lib.hid ?_) (Lib.hid ?_)
    · rw [bytes_at _ _ (by rw [hz]; exact hl) hl, byte_eq]; simp
    · intro k h hk
      rw [bytes_at _ _ h (by rw [hz] at h; exact h), byte_eq, List.getElem_append_left hk]
      exact beq_eq_false_iff_ne.2 (fun e => hp (e ▸ List.getElem_mem hk))
    · apply ByteArray.ext
      apply Array.ext'
      rw [Lib.extract_data]
      simp
    · apply ByteArray.ext
      apply Array.ext'
      rw [Lib.extract_data, List.take_of_length_le (by simp [hz]; omega)]
      simp
  · rw [Val.cut_none hm]
    refine vrefCut_no _ _ w (by rw [hz]; exact hs) (Lib.hid ?_)
    intro k h
    have hk : k < l.length := by rw [hz] at h; exact h
    rw [bytes_at _ _ h hk, byte_eq]
    exact beq_eq_false_iff_ne.2 (fun e => hm (e ▸ List.getElem_mem hk))
end Go.Proofs.YtejiifkenanodaaGreatDoor
