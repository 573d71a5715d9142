/-
  The contract of the reference's Plain.
-/
import Derived.Test.YtnfnonlbokddfaaDoorEvWord
namespace Go.Proofs.YtnfnonlbokddfaaDoor
open Go.RowKit

theorem byte_get (s : ByteArray) (k : Nat) (h : k < s.size) : s.data.toList[k]? = some s[k] := (List.getElem?_eq_getElem (by simpa using h)).trans rfl
def PlRel (s : ByteArray) (w : World) (i : Value) (wr : World) : Prop := ∃ k : Nat, k ≤ s.size ∧ i = .int .i64 (k : Int) ∧ Lib.validD s.data.toList = Lib.validD (s.data.toList.drop k) ∧ (s.data.toList.take k).all Evt.byteR = true ∧ Below w.heap.size w wr
theorem plain_step {l : List UInt8} {k n : Nat} (hn : Evt.rn (l.drop k) = n) (h0 : n ≠ 0) (hb : Evt.byteR ((l.drop k).getD 0 0) = true) (hv : Lib.validD l = Lib.validD (l.drop k)) (ha : (l.take k).all Evt.byteR = true) (hk : k < l.length) :
    Lib.validD l = Lib.validD (l.drop (k + n)) ∧ (l.take (k + n)).all Evt.byteR = true ∧ k + n ≤ l.length := by
  subst hn
  have hne : l.drop k ≠ [] := fun e => by have := congrArg List.length e; simp at this; omega
  obtain ⟨h1, h2⟩ := Evt.rn_bytes h0 hb
  rw [List.length_drop] at h2
  refine ⟨?_, ?_, by omega⟩
  · rw [hv, Evt.validD_rn hne, if_neg h0, List.drop_drop]
  · rw [List.take_add, List.all_append, ha, h1]; rfl
theorem plain_zero {l : List UInt8} {k : Nat} (hn : Evt.rn (l.drop k) = 0) (hv : Lib.validD l = Lib.validD (l.drop k)) (hk : k < l.length) : Lib.validD l = false := by
  have hne : l.drop k ≠ [] := fun e => by have := congrArg List.length e; simp at this; omega
  rw [hv, Evt.validD_rn hne, if_pos hn]

set_option maxRecDepth 100000 in
set_option maxHeartbeats 4000000 in
theorem refPlain_any (s : ByteArray) (most : Int) (w : World) (hs : s.size ≤ 140737488355328) :
    Calls Tryd.prog 81 #[.string s, .int .i64 most] w fun ed w' => ed = .returned (.bool (Evt.plainR s most)) ∧ Below w.heap.size w w' := by
  obtain ⟨ANS, hA⟩ : ∃ a, a = Evt.plainR s most := ⟨_, rfl⟩
  rw [← hA]
  by_cases hm : most < (s.size : Int)
  · have HV : Hid (ANS = false) := Lib.hid (by rw [hA]; unfold Evt.plainR; rw [decide_eq_false (by omega)]; rfl)
    clear hA
    go_enter Tryd.func81, Tryd.ntmps81
    go_wp2
    go_ret
    exact ⟨ret_bool HV.out.symm, Below.refl _ _⟩
  · have HA : Hid (ANS = (Lib.validD s.data.toList && s.data.toList.all Evt.byteR)) := Lib.hid (by rw [hA]; unfold Evt.plainR; rw [decide_eq_true (by omega), Bool.true_and])
    have HL : Hid (s.data.toList.length = s.size) := Lib.hid (by simp)
    clear hA
    go_enter Tryd.func81, Tryd.ntmps81
    go_wp2
    go_loopw [5] (fun i wr => PlRel s w i wr) (fun i _ => s.size - (intOf i).toNat)
    case atStart => exact ⟨0, Nat.zero_le _, rfl, rfl, rfl, Below.refl _ _⟩
    case round =>
      obtain ⟨k, hk, rfl, hv, ha, hB⟩ := hrel
      have HVD := Lib.hid hv
      have HAL := Lib.hid ha
      clear hv ha
      by_cases hlt : k < s.size
      · have hlt' : (k : Int) < (s.size : Int) := by omega
        have hle : k ≤ s.size := by omega
        have hle' : (k : Int) ≤ (s.size : Int) := by omega
        obtain ⟨n, hn⟩ : ∃ n, Evt.rn (s.data.toList.drop k) = n := ⟨_, rfl⟩
        have HN := Lib.hid hn
        have HX : Hid ((s.data.toList.drop k).getD 0 0 = s[k]) := Lib.hid (by
          have h1 := byte_at' s k hlt
          rw [List.getD_eq_getElem?_getD] at h1 ⊢
          rw [List.getElem?_drop, Nat.add_zero]
          exact h1)
        clear hn
        go_wp2_with fail
        refine (rune_is (s := s.extract k s.size) (n := (n : Int)) (by rw [extract_drop, HN.out]) _).mono ?_
        rintro e wx ⟨rfl, rfl⟩
        by_cases h0 : n = 0
        · subst h0
          have hz : (((0 : Nat) : Int) == 0) = true := rfl
          go_wp2
          go_ret
          exact ⟨ret_bool (by rw [HA.out, plain_zero HN.out HVD.out (by rw [HL.out]; exact hlt)]; rfl), hB⟩
        have hz : ((n : Int) == 0) = false := by simpa using h0
        by_cases h1 : (s[k].toNat : Int) < 32
        · have HF : Hid (Evt.byteR s[k] = false) := Lib.hid (by unfold Evt.byteR; exact decide_eq_false (by omega))
          go_wp2
          go_ret
          exact ⟨ret_bool (by rw [HA.out, Evt.all_not (byte_get s k hlt) HF.out, Bool.and_false]), hB⟩
        by_cases h2 : (s[k].toNat : Int) = 127
        · have HF : Hid (Evt.byteR s[k] = false) := Lib.hid (by unfold Evt.byteR; exact decide_eq_false (by omega))
          have h3 : ((s[k].toNat : Int) == 127) = true := by simpa using h2
          clear h2
          go_wp2
          go_ret
          exact ⟨ret_bool (by rw [HA.out, Evt.all_not (byte_get s k hlt) HF.out, Bool.and_false]), hB⟩
        · have HF : Hid (Evt.byteR s[k] = true) := Lib.hid (by unfold Evt.byteR; exact decide_eq_true (by omega))
          have h3 : ((s[k].toNat : Int) == 127) = false := by simpa using h2
          clear h2
          obtain ⟨p1, p2, p3⟩ := plain_step HN.out h0 (by rw [HX.out]; exact HF.out) HVD.out HAL.out (by rw [HL.out]; exact hlt)
          have HP1 := Lib.hid p1
          have HP2 := Lib.hid p2
          have hn2 : k + n ≤ s.size := by rw [← HL.out]; exact p3
          clear p1 p2 p3
          have hn2' : (k : Int) + (n : Int) ≤ (s.size : Int) := by omega
          go_wp2
          go_roundw
          case rel => exact ⟨k + n, hn2, by go_num, HP1.out, HP2.out, hB⟩
          case measure => simp [intOf]; omega
      · obtain rfl : k = s.size := by omega
        have hge : ¬ (s.size : Int) < (s.size : Int) := by omega
        go_wp2
        go_ret
        exact ⟨ret_bool (by
          have h1 := HVD.out
          have h2 := HAL.out
          rw [List.drop_of_length_le (by rw [HL.out]; exact Nat.le_refl _)] at h1
          rw [List.take_of_length_le (by rw [HL.out]; exact Nat.le_refl _)] at h2
          rw [HA.out, h1, h2]; rfl), hB⟩
theorem plain_is {s : ByteArray} {most : Int} {q : Bool} (h : Evt.plainR s most = q) (w : World) (hs : s.size ≤ 140737488355328) : Calls Tryd.prog 81 #[.string s, .int .i64 most] w fun ed w' => ed = .returned (.bool q) ∧ Below w.heap.size w w' := by subst h; exact refPlain_any s most w hs
theorem plain_word_is {s : ByteArray} {q : Bool} (h : Evt.wordR s = q) (w : World) (hs : s.size ≤ 140737488355328) : Calls Tryd.prog 81 #[.string s, .int .i64 40] w fun ed w' => ed = .returned (.bool q) ∧ Below w.heap.size w w' := plain_is (by rw [Evt.plain_word, h]) w hs
end Go.Proofs.YtnfnonlbokddfaaDoor
