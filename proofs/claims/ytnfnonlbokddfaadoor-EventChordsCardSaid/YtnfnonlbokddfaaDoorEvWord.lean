/-
  The contracts of the reference's Rune and Plain.
-/
import Derived.Test.YtnfnonlbokddfaaDoorEvB
import Derived.Test.YtnfnonlbokddfaaDoorEvWd
namespace Go.Proofs.YtnfnonlbokddfaaDoor
open Go.RowKit

theorem byte_at' (s : ByteArray) (k : Nat) (h : k < s.size) : s.data.toList.getD k 0 = s[k] := by
  rw [List.getD_eq_getElem?_getD, (List.getElem?_eq_getElem (by simpa using h) : s.data.toList[k]? = some _)]; rfl
theorem extract_drop (s : ByteArray) (k : Nat) : (s.extract k s.size).data.toList = s.data.toList.drop k := by
  rw [ByteArray.data_extract, Array.toList_extract, List.extract_eq_take_drop]
  exact List.take_of_length_le (by simp)
theorem rn_at {s : ByteArray} (h0 : 0 < s.size) : Evt.rn s.data.toList = Evt.rnN s.size (s.data.toList.getD 0 0).toNat (s.data.toList.getD 1 0).toNat (s.data.toList.getD 2 0).toNat (s.data.toList.getD 3 0).toNat := by
  unfold Evt.rn
  have hl : s.data.toList.length = s.size := by simp
  rw [if_neg (fun e => by rw [e] at hl; simp only [List.length_nil] at hl; omega), hl]

set_option maxRecDepth 100000 in
set_option maxHeartbeats 4000000 in
theorem rune_0 (s : ByteArray) (w : World) (h0 : 0 < s.size) (hlo : 0 ≤ s[0].toNat) (hhi : s[0].toNat ≤ 127) (ANS : Int) (HA : Hid (ANS = (Evt.rn s.data.toList : Int))) :
    Calls Tryd.prog 121 #[.string s] w fun ed w' => ed = .returned (.int .i64 ANS) ∧ w = w' := by
  have hz : ((s.size : Int) == 0) = false := beq_eq_false_iff_ne.2 (by omega)
  have h0' : (0 : Int) < (s.size : Int) := by omega
  have u0 : (s[0].toNat : Int) ≤ 255 := by omega
  have a1 : (s[0].toNat : Int) < 128 := by omega
  have HV : Hid (ANS = 1) := Lib.hid (HA.out.trans (by rw [rn_at h0, byte_at' s 0 h0]; unfold Evt.rnN; (repeat' split) <;> omega))
  clear hlo hhi
  go_enter Tryd.func121, Tryd.ntmps121
  go_wp2
  go_ret
  exact ⟨ret_int HV.out.symm, rfl⟩

set_option maxRecDepth 100000 in
set_option maxHeartbeats 4000000 in
theorem rune_1 (s : ByteArray) (w : World) (h0 : 0 < s.size) (hlo : 128 ≤ s[0].toNat) (hhi : s[0].toNat ≤ 193) (ANS : Int) (HA : Hid (ANS = (Evt.rn s.data.toList : Int))) :
    Calls Tryd.prog 121 #[.string s] w fun ed w' => ed = .returned (.int .i64 ANS) ∧ w = w' := by
  have hz : ((s.size : Int) == 0) = false := beq_eq_false_iff_ne.2 (by omega)
  have h0' : (0 : Int) < (s.size : Int) := by omega
  have u0 : (s[0].toNat : Int) ≤ 255 := by omega
  have a1 : ¬ ((s[0].toNat : Int) < 128) := by omega
  have a2 : ¬ ((194 : Int) ≤ (s[0].toNat : Int)) := by omega
  have a3 : (s[0].toNat : Int) ≤ 223 := by omega
  have a4 : ¬ ((224 : Int) ≤ (s[0].toNat : Int)) := by omega
  have a5 : (s[0].toNat : Int) ≤ 239 := by omega
  have a6 : ¬ ((240 : Int) ≤ (s[0].toNat : Int)) := by omega
  have a7 : (s[0].toNat : Int) ≤ 244 := by omega
  have q0 : ((s[0].toNat : Int) == 224) = false := beq_eq_false_iff_ne.2 (by omega)
  have q1 : ((s[0].toNat : Int) == 240) = false := beq_eq_false_iff_ne.2 (by omega)
  have q2 : ((s[0].toNat : Int) == 237) = false := beq_eq_false_iff_ne.2 (by omega)
  have q3 : ((s[0].toNat : Int) == 244) = false := beq_eq_false_iff_ne.2 (by omega)
  have e_s : Evt.sz s[0].toNat = 0 := by unfold Evt.sz; (repeat' split) <;> omega
  have e_l : Evt.lo2 s[0].toNat = 128 := by unfold Evt.lo2; (repeat' split) <;> omega
  have e_h : Evt.hi2 s[0].toNat = 191 := by unfold Evt.hi2; (repeat' split) <;> omega
  have HV : Hid (ANS = 0) := Lib.hid (HA.out.trans (by rw [rn_at h0, byte_at' s 0 h0]; unfold Evt.rnN; rw [e_s, e_l, e_h]; (repeat' split) <;> omega))
  clear hlo hhi e_s e_l e_h
  go_enter Tryd.func121, Tryd.ntmps121
  go_wp2
  go_ret
  exact ⟨ret_int HV.out.symm, rfl⟩

set_option maxRecDepth 100000 in
set_option maxHeartbeats 4000000 in
theorem rune_2 (s : ByteArray) (w : World) (h0 : 0 < s.size) (hlo : 194 ≤ s[0].toNat) (hhi : s[0].toNat ≤ 223) (ANS : Int) (HA : Hid (ANS = (Evt.rn s.data.toList : Int))) :
    Calls Tryd.prog 121 #[.string s] w fun ed w' => ed = .returned (.int .i64 ANS) ∧ w = w' := by
  have hz : ((s.size : Int) == 0) = false := beq_eq_false_iff_ne.2 (by omega)
  have h0' : (0 : Int) < (s.size : Int) := by omega
  have u0 : (s[0].toNat : Int) ≤ 255 := by omega
  have a1 : ¬ ((s[0].toNat : Int) < 128) := by omega
  have a2 : (194 : Int) ≤ (s[0].toNat : Int) := by omega
  have a3 : (s[0].toNat : Int) ≤ 223 := by omega
  have a4 : ¬ ((224 : Int) ≤ (s[0].toNat : Int)) := by omega
  have a5 : (s[0].toNat : Int) ≤ 239 := by omega
  have a6 : ¬ ((240 : Int) ≤ (s[0].toNat : Int)) := by omega
  have a7 : (s[0].toNat : Int) ≤ 244 := by omega
  have q0 : ((s[0].toNat : Int) == 224) = false := beq_eq_false_iff_ne.2 (by omega)
  have q1 : ((s[0].toNat : Int) == 240) = false := beq_eq_false_iff_ne.2 (by omega)
  have q2 : ((s[0].toNat : Int) == 237) = false := beq_eq_false_iff_ne.2 (by omega)
  have q3 : ((s[0].toNat : Int) == 244) = false := beq_eq_false_iff_ne.2 (by omega)
  have e_s : Evt.sz s[0].toNat = 2 := by unfold Evt.sz; (repeat' split) <;> omega
  have e_l : Evt.lo2 s[0].toNat = 128 := by unfold Evt.lo2; (repeat' split) <;> omega
  have e_h : Evt.hi2 s[0].toNat = 191 := by unfold Evt.hi2; (repeat' split) <;> omega
  by_cases hn : (s.size : Int) < 2
  · have HV : Hid (ANS = 0) := Lib.hid (HA.out.trans (by rw [rn_at h0, byte_at' s 0 h0]; unfold Evt.rnN; rw [e_s, e_l, e_h]; (repeat' split) <;> omega))
    clear hlo hhi e_s e_l e_h
    go_enter Tryd.func121, Tryd.ntmps121
    go_wp2
    go_ret
    exact ⟨ret_int HV.out.symm, rfl⟩
  have h1 : 1 < s.size := by omega
  have h1' : (1 : Int) < (s.size : Int) := by omega
  have u1 : (s[1].toNat : Int) ≤ 255 := by have := s[1].toNat_lt; omega
  by_cases b1 : (s[1].toNat : Int) < 128
  · have HV : Hid (ANS = 0) := Lib.hid (HA.out.trans (by rw [rn_at h0, byte_at' s 0 h0]; rw [byte_at' s 1 h1]; unfold Evt.rnN; rw [e_s, e_l, e_h]; (repeat' split) <;> omega))
    clear hlo hhi e_s e_l e_h
    go_enter Tryd.func121, Tryd.ntmps121
    go_wp2
    go_ret
    exact ⟨ret_int HV.out.symm, rfl⟩
  by_cases b2 : (191 : Int) < (s[1].toNat : Int)
  · have HV : Hid (ANS = 0) := Lib.hid (HA.out.trans (by rw [rn_at h0, byte_at' s 0 h0]; rw [byte_at' s 1 h1]; unfold Evt.rnN; rw [e_s, e_l, e_h]; (repeat' split) <;> omega))
    clear hlo hhi e_s e_l e_h
    go_enter Tryd.func121, Tryd.ntmps121
    go_wp2
    go_ret
    exact ⟨ret_int HV.out.symm, rfl⟩
  · have HV : Hid (ANS = 2) := Lib.hid (HA.out.trans (by rw [rn_at h0, byte_at' s 0 h0]; rw [byte_at' s 1 h1]; unfold Evt.rnN; rw [e_s, e_l, e_h]; (repeat' split) <;> omega))
    clear hlo hhi e_s e_l e_h
    go_enter Tryd.func121, Tryd.ntmps121
    go_wp2
    refine wp_loop_rounds 1 ?_
    rw [rounds_succ]
    go_wp2
    go_ret
    exact ⟨ret_int HV.out.symm, rfl⟩

set_option maxRecDepth 100000 in
set_option maxHeartbeats 4000000 in
theorem rune_3 (s : ByteArray) (w : World) (h0 : 0 < s.size) (hlo : 224 ≤ s[0].toNat) (hhi : s[0].toNat ≤ 224) (ANS : Int) (HA : Hid (ANS = (Evt.rn s.data.toList : Int))) :
    Calls Tryd.prog 121 #[.string s] w fun ed w' => ed = .returned (.int .i64 ANS) ∧ w = w' := by
  have hz : ((s.size : Int) == 0) = false := beq_eq_false_iff_ne.2 (by omega)
  have h0' : (0 : Int) < (s.size : Int) := by omega
  have u0 : (s[0].toNat : Int) ≤ 255 := by omega
  have a1 : ¬ ((s[0].toNat : Int) < 128) := by omega
  have a2 : (194 : Int) ≤ (s[0].toNat : Int) := by omega
  have a3 : ¬ ((s[0].toNat : Int) ≤ 223) := by omega
  have a4 : (224 : Int) ≤ (s[0].toNat : Int) := by omega
  have a5 : (s[0].toNat : Int) ≤ 239 := by omega
  have a6 : ¬ ((240 : Int) ≤ (s[0].toNat : Int)) := by omega
  have a7 : (s[0].toNat : Int) ≤ 244 := by omega
  have q0 : ((s[0].toNat : Int) == 224) = true := beq_iff_eq.2 (by omega)
  have q1 : ((s[0].toNat : Int) == 240) = false := beq_eq_false_iff_ne.2 (by omega)
  have q2 : ((s[0].toNat : Int) == 237) = false := beq_eq_false_iff_ne.2 (by omega)
  have q3 : ((s[0].toNat : Int) == 244) = false := beq_eq_false_iff_ne.2 (by omega)
  have e_s : Evt.sz s[0].toNat = 3 := by unfold Evt.sz; (repeat' split) <;> omega
  have e_l : Evt.lo2 s[0].toNat = 160 := by unfold Evt.lo2; (repeat' split) <;> omega
  have e_h : Evt.hi2 s[0].toNat = 191 := by unfold Evt.hi2; (repeat' split) <;> omega
  by_cases hn : (s.size : Int) < 3
  · have HV : Hid (ANS = 0) := Lib.hid (HA.out.trans (by rw [rn_at h0, byte_at' s 0 h0]; unfold Evt.rnN; rw [e_s, e_l, e_h]; (repeat' split) <;> omega))
    clear hlo hhi e_s e_l e_h
    go_enter Tryd.func121, Tryd.ntmps121
    go_wp2
    go_ret
    exact ⟨ret_int HV.out.symm, rfl⟩
  have h1 : 1 < s.size := by omega
  have h1' : (1 : Int) < (s.size : Int) := by omega
  have u1 : (s[1].toNat : Int) ≤ 255 := by have := s[1].toNat_lt; omega
  by_cases b1 : (s[1].toNat : Int) < 160
  · have HV : Hid (ANS = 0) := Lib.hid (HA.out.trans (by rw [rn_at h0, byte_at' s 0 h0]; rw [byte_at' s 1 h1]; unfold Evt.rnN; rw [e_s, e_l, e_h]; (repeat' split) <;> omega))
    clear hlo hhi e_s e_l e_h
    go_enter Tryd.func121, Tryd.ntmps121
    go_wp2
    go_ret
    exact ⟨ret_int HV.out.symm, rfl⟩
  by_cases b2 : (191 : Int) < (s[1].toNat : Int)
  · have HV : Hid (ANS = 0) := Lib.hid (HA.out.trans (by rw [rn_at h0, byte_at' s 0 h0]; rw [byte_at' s 1 h1]; unfold Evt.rnN; rw [e_s, e_l, e_h]; (repeat' split) <;> omega))
    clear hlo hhi e_s e_l e_h
    go_enter Tryd.func121, Tryd.ntmps121
    go_wp2
    go_ret
    exact ⟨ret_int HV.out.symm, rfl⟩
  have h2 : 2 < s.size := by omega
  have h2' : (2 : Int) < (s.size : Int) := by omega
  by_cases c1 : (s[2].toNat : Int) < 128
  · have HV : Hid (ANS = 0) := Lib.hid (HA.out.trans (by rw [rn_at h0, byte_at' s 0 h0]; rw [byte_at' s 1 h1]; rw [byte_at' s 2 h2]; unfold Evt.rnN; rw [e_s, e_l, e_h]; (repeat' split) <;> omega))
    clear hlo hhi e_s e_l e_h
    go_enter Tryd.func121, Tryd.ntmps121
    go_wp2
    refine wp_loop_rounds 3 ?_
    rw [rounds_succ]
    go_wp2
    go_ret
    exact ⟨ret_int HV.out.symm, rfl⟩
  by_cases c2 : (191 : Int) < (s[2].toNat : Int)
  · have HV : Hid (ANS = 0) := Lib.hid (HA.out.trans (by rw [rn_at h0, byte_at' s 0 h0]; rw [byte_at' s 1 h1]; rw [byte_at' s 2 h2]; unfold Evt.rnN; rw [e_s, e_l, e_h]; (repeat' split) <;> omega))
    clear hlo hhi e_s e_l e_h
    go_enter Tryd.func121, Tryd.ntmps121
    go_wp2
    refine wp_loop_rounds 3 ?_
    rw [rounds_succ]
    go_wp2
    go_ret
    exact ⟨ret_int HV.out.symm, rfl⟩
  · have HV : Hid (ANS = 3) := Lib.hid (HA.out.trans (by rw [rn_at h0, byte_at' s 0 h0]; rw [byte_at' s 1 h1]; rw [byte_at' s 2 h2]; unfold Evt.rnN; rw [e_s, e_l, e_h]; (repeat' split) <;> omega))
    clear hlo hhi e_s e_l e_h
    go_enter Tryd.func121, Tryd.ntmps121
    go_wp2
    refine wp_loop_rounds 2 ?_
    rw [rounds_succ]
    go_wp2
    rw [rounds_succ]
    go_wp2
    go_ret
    exact ⟨ret_int HV.out.symm, rfl⟩

set_option maxRecDepth 100000 in
set_option maxHeartbeats 4000000 in
theorem rune_4 (s : ByteArray) (w : World) (h0 : 0 < s.size) (hlo : 225 ≤ s[0].toNat) (hhi : s[0].toNat ≤ 236) (ANS : Int) (HA : Hid (ANS = (Evt.rn s.data.toList : Int))) :
    Calls Tryd.prog 121 #[.string s] w fun ed w' => ed = .returned (.int .i64 ANS) ∧ w = w' := by
  have hz : ((s.size : Int) == 0) = false := beq_eq_false_iff_ne.2 (by omega)
  have h0' : (0 : Int) < (s.size : Int) := by omega
  have u0 : (s[0].toNat : Int) ≤ 255 := by omega
  have a1 : ¬ ((s[0].toNat : Int) < 128) := by omega
  have a2 : (194 : Int) ≤ (s[0].toNat : Int) := by omega
  have a3 : ¬ ((s[0].toNat : Int) ≤ 223) := by omega
  have a4 : (224 : Int) ≤ (s[0].toNat : Int) := by omega
  have a5 : (s[0].toNat : Int) ≤ 239 := by omega
  have a6 : ¬ ((240 : Int) ≤ (s[0].toNat : Int)) := by omega
  have a7 : (s[0].toNat : Int) ≤ 244 := by omega
  have q0 : ((s[0].toNat : Int) == 224) = false := beq_eq_false_iff_ne.2 (by omega)
  have q1 : ((s[0].toNat : Int) == 240) = false := beq_eq_false_iff_ne.2 (by omega)
  have q2 : ((s[0].toNat : Int) == 237) = false := beq_eq_false_iff_ne.2 (by omega)
  have q3 : ((s[0].toNat : Int) == 244) = false := beq_eq_false_iff_ne.2 (by omega)
  have e_s : Evt.sz s[0].toNat = 3 := by unfold Evt.sz; (repeat' split) <;> omega
  have e_l : Evt.lo2 s[0].toNat = 128 := by unfold Evt.lo2; (repeat' split) <;> omega
  have e_h : Evt.hi2 s[0].toNat = 191 := by unfold Evt.hi2; (repeat' split) <;> omega
  by_cases hn : (s.size : Int) < 3
  · have HV : Hid (ANS = 0) := Lib.hid (HA.out.trans (by rw [rn_at h0, byte_at' s 0 h0]; unfold Evt.rnN; rw [e_s, e_l, e_h]; (repeat' split) <;> omega))
    clear hlo hhi e_s e_l e_h
    go_enter Tryd.func121, Tryd.ntmps121
    go_wp2
    go_ret
    exact ⟨ret_int HV.out.symm, rfl⟩
  have h1 : 1 < s.size := by omega
  have h1' : (1 : Int) < (s.size : Int) := by omega
  have u1 : (s[1].toNat : Int) ≤ 255 := by have := s[1].toNat_lt; omega
  by_cases b1 : (s[1].toNat : Int) < 128
  · have HV : Hid (ANS = 0) := Lib.hid (HA.out.trans (by rw [rn_at h0, byte_at' s 0 h0]; rw [byte_at' s 1 h1]; unfold Evt.rnN; rw [e_s, e_l, e_h]; (repeat' split) <;> omega))
    clear hlo hhi e_s e_l e_h
    go_enter Tryd.func121, Tryd.ntmps121
    go_wp2
    go_ret
    exact ⟨ret_int HV.out.symm, rfl⟩
  by_cases b2 : (191 : Int) < (s[1].toNat : Int)
  · have HV : Hid (ANS = 0) := Lib.hid (HA.out.trans (by rw [rn_at h0, byte_at' s 0 h0]; rw [byte_at' s 1 h1]; unfold Evt.rnN; rw [e_s, e_l, e_h]; (repeat' split) <;> omega))
    clear hlo hhi e_s e_l e_h
    go_enter Tryd.func121, Tryd.ntmps121
    go_wp2
    go_ret
    exact ⟨ret_int HV.out.symm, rfl⟩
  have h2 : 2 < s.size := by omega
  have h2' : (2 : Int) < (s.size : Int) := by omega
  by_cases c1 : (s[2].toNat : Int) < 128
  · have HV : Hid (ANS = 0) := Lib.hid (HA.out.trans (by rw [rn_at h0, byte_at' s 0 h0]; rw [byte_at' s 1 h1]; rw [byte_at' s 2 h2]; unfold Evt.rnN; rw [e_s, e_l, e_h]; (repeat' split) <;> omega))
    clear hlo hhi e_s e_l e_h
    go_enter Tryd.func121, Tryd.ntmps121
    go_wp2
    refine wp_loop_rounds 3 ?_
    rw [rounds_succ]
    go_wp2
    go_ret
    exact ⟨ret_int HV.out.symm, rfl⟩
  by_cases c2 : (191 : Int) < (s[2].toNat : Int)
  · have HV : Hid (ANS = 0) := Lib.hid (HA.out.trans (by rw [rn_at h0, byte_at' s 0 h0]; rw [byte_at' s 1 h1]; rw [byte_at' s 2 h2]; unfold Evt.rnN; rw [e_s, e_l, e_h]; (repeat' split) <;> omega))
    clear hlo hhi e_s e_l e_h
    go_enter Tryd.func121, Tryd.ntmps121
    go_wp2
    refine wp_loop_rounds 3 ?_
    rw [rounds_succ]
    go_wp2
    go_ret
    exact ⟨ret_int HV.out.symm, rfl⟩
  · have HV : Hid (ANS = 3) := Lib.hid (HA.out.trans (by rw [rn_at h0, byte_at' s 0 h0]; rw [byte_at' s 1 h1]; rw [byte_at' s 2 h2]; unfold Evt.rnN; rw [e_s, e_l, e_h]; (repeat' split) <;> omega))
    clear hlo hhi e_s e_l e_h
    go_enter Tryd.func121, Tryd.ntmps121
    go_wp2
    refine wp_loop_rounds 2 ?_
    rw [rounds_succ]
    go_wp2
    rw [rounds_succ]
    go_wp2
    go_ret
    exact ⟨ret_int HV.out.symm, rfl⟩

set_option maxRecDepth 100000 in
set_option maxHeartbeats 4000000 in
theorem rune_5 (s : ByteArray) (w : World) (h0 : 0 < s.size) (hlo : 237 ≤ s[0].toNat) (hhi : s[0].toNat ≤ 237) (ANS : Int) (HA : Hid (ANS = (Evt.rn s.data.toList : Int))) :
    Calls Tryd.prog 121 #[.string s] w fun ed w' => ed = .returned (.int .i64 ANS) ∧ w = w' := by
  have hz : ((s.size : Int) == 0) = false := beq_eq_false_iff_ne.2 (by omega)
  have h0' : (0 : Int) < (s.size : Int) := by omega
  have u0 : (s[0].toNat : Int) ≤ 255 := by omega
  have a1 : ¬ ((s[0].toNat : Int) < 128) := by omega
  have a2 : (194 : Int) ≤ (s[0].toNat : Int) := by omega
  have a3 : ¬ ((s[0].toNat : Int) ≤ 223) := by omega
  have a4 : (224 : Int) ≤ (s[0].toNat : Int) := by omega
  have a5 : (s[0].toNat : Int) ≤ 239 := by omega
  have a6 : ¬ ((240 : Int) ≤ (s[0].toNat : Int)) := by omega
  have a7 : (s[0].toNat : Int) ≤ 244 := by omega
  have q0 : ((s[0].toNat : Int) == 224) = false := beq_eq_false_iff_ne.2 (by omega)
  have q1 : ((s[0].toNat : Int) == 240) = false := beq_eq_false_iff_ne.2 (by omega)
  have q2 : ((s[0].toNat : Int) == 237) = true := beq_iff_eq.2 (by omega)
  have q3 : ((s[0].toNat : Int) == 244) = false := beq_eq_false_iff_ne.2 (by omega)
  have e_s : Evt.sz s[0].toNat = 3 := by unfold Evt.sz; (repeat' split) <;> omega
  have e_l : Evt.lo2 s[0].toNat = 128 := by unfold Evt.lo2; (repeat' split) <;> omega
  have e_h : Evt.hi2 s[0].toNat = 159 := by unfold Evt.hi2; (repeat' split) <;> omega
  by_cases hn : (s.size : Int) < 3
  · have HV : Hid (ANS = 0) := Lib.hid (HA.out.trans (by rw [rn_at h0, byte_at' s 0 h0]; unfold Evt.rnN; rw [e_s, e_l, e_h]; (repeat' split) <;> omega))
    clear hlo hhi e_s e_l e_h
    go_enter Tryd.func121, Tryd.ntmps121
    go_wp2
    go_ret
    exact ⟨ret_int HV.out.symm, rfl⟩
  have h1 : 1 < s.size := by omega
  have h1' : (1 : Int) < (s.size : Int) := by omega
  have u1 : (s[1].toNat : Int) ≤ 255 := by have := s[1].toNat_lt; omega
  by_cases b1 : (s[1].toNat : Int) < 128
  · have HV : Hid (ANS = 0) := Lib.hid (HA.out.trans (by rw [rn_at h0, byte_at' s 0 h0]; rw [byte_at' s 1 h1]; unfold Evt.rnN; rw [e_s, e_l, e_h]; (repeat' split) <;> omega))
    clear hlo hhi e_s e_l e_h
    go_enter Tryd.func121, Tryd.ntmps121
    go_wp2
    go_ret
    exact ⟨ret_int HV.out.symm, rfl⟩
  by_cases b2 : (191 : Int) < (s[1].toNat : Int)
  · have HV : Hid (ANS = 0) := Lib.hid (HA.out.trans (by rw [rn_at h0, byte_at' s 0 h0]; rw [byte_at' s 1 h1]; unfold Evt.rnN; rw [e_s, e_l, e_h]; (repeat' split) <;> omega))
    clear hlo hhi e_s e_l e_h
    go_enter Tryd.func121, Tryd.ntmps121
    go_wp2
    go_ret
    exact ⟨ret_int HV.out.symm, rfl⟩
  by_cases b3 : (159 : Int) < (s[1].toNat : Int)
  · have HV : Hid (ANS = 0) := Lib.hid (HA.out.trans (by rw [rn_at h0, byte_at' s 0 h0]; rw [byte_at' s 1 h1]; unfold Evt.rnN; rw [e_s, e_l, e_h]; (repeat' split) <;> omega))
    clear hlo hhi e_s e_l e_h
    go_enter Tryd.func121, Tryd.ntmps121
    go_wp2
    go_ret
    exact ⟨ret_int HV.out.symm, rfl⟩
  have h2 : 2 < s.size := by omega
  have h2' : (2 : Int) < (s.size : Int) := by omega
  by_cases c1 : (s[2].toNat : Int) < 128
  · have HV : Hid (ANS = 0) := Lib.hid (HA.out.trans (by rw [rn_at h0, byte_at' s 0 h0]; rw [byte_at' s 1 h1]; rw [byte_at' s 2 h2]; unfold Evt.rnN; rw [e_s, e_l, e_h]; (repeat' split) <;> omega))
    clear hlo hhi e_s e_l e_h
    go_enter Tryd.func121, Tryd.ntmps121
    go_wp2
    refine wp_loop_rounds 3 ?_
    rw [rounds_succ]
    go_wp2
    go_ret
    exact ⟨ret_int HV.out.symm, rfl⟩
  by_cases c2 : (191 : Int) < (s[2].toNat : Int)
  · have HV : Hid (ANS = 0) := Lib.hid (HA.out.trans (by rw [rn_at h0, byte_at' s 0 h0]; rw [byte_at' s 1 h1]; rw [byte_at' s 2 h2]; unfold Evt.rnN; rw [e_s, e_l, e_h]; (repeat' split) <;> omega))
    clear hlo hhi e_s e_l e_h
    go_enter Tryd.func121, Tryd.ntmps121
    go_wp2
    refine wp_loop_rounds 3 ?_
    rw [rounds_succ]
    go_wp2
    go_ret
    exact ⟨ret_int HV.out.symm, rfl⟩
  · have HV : Hid (ANS = 3) := Lib.hid (HA.out.trans (by rw [rn_at h0, byte_at' s 0 h0]; rw [byte_at' s 1 h1]; rw [byte_at' s 2 h2]; unfold Evt.rnN; rw [e_s, e_l, e_h]; (repeat' split) <;> omega))
    clear hlo hhi e_s e_l e_h
    go_enter Tryd.func121, Tryd.ntmps121
    go_wp2
    refine wp_loop_rounds 2 ?_
    rw [rounds_succ]
    go_wp2
    rw [rounds_succ]
    go_wp2
    go_ret
    exact ⟨ret_int HV.out.symm, rfl⟩

set_option maxRecDepth 100000 in
set_option maxHeartbeats 4000000 in
theorem rune_6 (s : ByteArray) (w : World) (h0 : 0 < s.size) (hlo : 238 ≤ s[0].toNat) (hhi : s[0].toNat ≤ 239) (ANS : Int) (HA : Hid (ANS = (Evt.rn s.data.toList : Int))) :
    Calls Tryd.prog 121 #[.string s] w fun ed w' => ed = .returned (.int .i64 ANS) ∧ w = w' := by
  have hz : ((s.size : Int) == 0) = false := beq_eq_false_iff_ne.2 (by omega)
  have h0' : (0 : Int) < (s.size : Int) := by omega
  have u0 : (s[0].toNat : Int) ≤ 255 := by omega
  have a1 : ¬ ((s[0].toNat : Int) < 128) := by omega
  have a2 : (194 : Int) ≤ (s[0].toNat : Int) := by omega
  have a3 : ¬ ((s[0].toNat : Int) ≤ 223) := by omega
  have a4 : (224 : Int) ≤ (s[0].toNat : Int) := by omega
  have a5 : (s[0].toNat : Int) ≤ 239 := by omega
  have a6 : ¬ ((240 : Int) ≤ (s[0].toNat : Int)) := by omega
  have a7 : (s[0].toNat : Int) ≤ 244 := by omega
  have q0 : ((s[0].toNat : Int) == 224) = false := beq_eq_false_iff_ne.2 (by omega)
  have q1 : ((s[0].toNat : Int) == 240) = false := beq_eq_false_iff_ne.2 (by omega)
  have q2 : ((s[0].toNat : Int) == 237) = false := beq_eq_false_iff_ne.2 (by omega)
  have q3 : ((s[0].toNat : Int) == 244) = false := beq_eq_false_iff_ne.2 (by omega)
  have e_s : Evt.sz s[0].toNat = 3 := by unfold Evt.sz; (repeat' split) <;> omega
  have e_l : Evt.lo2 s[0].toNat = 128 := by unfold Evt.lo2; (repeat' split) <;> omega
  have e_h : Evt.hi2 s[0].toNat = 191 := by unfold Evt.hi2; (repeat' split) <;> omega
  by_cases hn : (s.size : Int) < 3
  · have HV : Hid (ANS = 0) := Lib.hid (HA.out.trans (by rw [rn_at h0, byte_at' s 0 h0]; unfold Evt.rnN; rw [e_s, e_l, e_h]; (repeat' split) <;> omega))
    clear hlo hhi e_s e_l e_h
    go_enter Tryd.func121, Tryd.ntmps121
    go_wp2
    go_ret
    exact ⟨ret_int HV.out.symm, rfl⟩
  have h1 : 1 < s.size := by omega
  have h1' : (1 : Int) < (s.size : Int) := by omega
  have u1 : (s[1].toNat : Int) ≤ 255 := by have := s[1].toNat_lt; omega
  by_cases b1 : (s[1].toNat : Int) < 128
  · have HV : Hid (ANS = 0) := Lib.hid (HA.out.trans (by rw [rn_at h0, byte_at' s 0 h0]; rw [byte_at' s 1 h1]; unfold Evt.rnN; rw [e_s, e_l, e_h]; (repeat' split) <;> omega))
    clear hlo hhi e_s e_l e_h
    go_enter Tryd.func121, Tryd.ntmps121
    go_wp2
    go_ret
    exact ⟨ret_int HV.out.symm, rfl⟩
  by_cases b2 : (191 : Int) < (s[1].toNat : Int)
  · have HV : Hid (ANS = 0) := Lib.hid (HA.out.trans (by rw [rn_at h0, byte_at' s 0 h0]; rw [byte_at' s 1 h1]; unfold Evt.rnN; rw [e_s, e_l, e_h]; (repeat' split) <;> omega))
    clear hlo hhi e_s e_l e_h
    go_enter Tryd.func121, Tryd.ntmps121
    go_wp2
    go_ret
    exact ⟨ret_int HV.out.symm, rfl⟩
  have h2 : 2 < s.size := by omega
  have h2' : (2 : Int) < (s.size : Int) := by omega
  by_cases c1 : (s[2].toNat : Int) < 128
  · have HV : Hid (ANS = 0) := Lib.hid (HA.out.trans (by rw [rn_at h0, byte_at' s 0 h0]; rw [byte_at' s 1 h1]; rw [byte_at' s 2 h2]; unfold Evt.rnN; rw [e_s, e_l, e_h]; (repeat' split) <;> omega))
    clear hlo hhi e_s e_l e_h
    go_enter Tryd.func121, Tryd.ntmps121
    go_wp2
    refine wp_loop_rounds 3 ?_
    rw [rounds_succ]
    go_wp2
    go_ret
    exact ⟨ret_int HV.out.symm, rfl⟩
  by_cases c2 : (191 : Int) < (s[2].toNat : Int)
  · have HV : Hid (ANS = 0) := Lib.hid (HA.out.trans (by rw [rn_at h0, byte_at' s 0 h0]; rw [byte_at' s 1 h1]; rw [byte_at' s 2 h2]; unfold Evt.rnN; rw [e_s, e_l, e_h]; (repeat' split) <;> omega))
    clear hlo hhi e_s e_l e_h
    go_enter Tryd.func121, Tryd.ntmps121
    go_wp2
    refine wp_loop_rounds 3 ?_
    rw [rounds_succ]
    go_wp2
    go_ret
    exact ⟨ret_int HV.out.symm, rfl⟩
  · have HV : Hid (ANS = 3) := Lib.hid (HA.out.trans (by rw [rn_at h0, byte_at' s 0 h0]; rw [byte_at' s 1 h1]; rw [byte_at' s 2 h2]; unfold Evt.rnN; rw [e_s, e_l, e_h]; (repeat' split) <;> omega))
    clear hlo hhi e_s e_l e_h
    go_enter Tryd.func121, Tryd.ntmps121
    go_wp2
    refine wp_loop_rounds 2 ?_
    rw [rounds_succ]
    go_wp2
    rw [rounds_succ]
    go_wp2
    go_ret
    exact ⟨ret_int HV.out.symm, rfl⟩

set_option maxRecDepth 100000 in
set_option maxHeartbeats 4000000 in
theorem rune_7 (s : ByteArray) (w : World) (h0 : 0 < s.size) (hlo : 240 ≤ s[0].toNat) (hhi : s[0].toNat ≤ 240) (ANS : Int) (HA : Hid (ANS = (Evt.rn s.data.toList : Int))) :
    Calls Tryd.prog 121 #[.string s] w fun ed w' => ed = .returned (.int .i64 ANS) ∧ w = w' := by
  have hz : ((s.size : Int) == 0) = false := beq_eq_false_iff_ne.2 (by omega)
  have h0' : (0 : Int) < (s.size : Int) := by omega
  have u0 : (s[0].toNat : Int) ≤ 255 := by omega
  have a1 : ¬ ((s[0].toNat : Int) < 128) := by omega
  have a2 : (194 : Int) ≤ (s[0].toNat : Int) := by omega
  have a3 : ¬ ((s[0].toNat : Int) ≤ 223) := by omega
  have a4 : (224 : Int) ≤ (s[0].toNat : Int) := by omega
  have a5 : ¬ ((s[0].toNat : Int) ≤ 239) := by omega
  have a6 : (240 : Int) ≤ (s[0].toNat : Int) := by omega
  have a7 : (s[0].toNat : Int) ≤ 244 := by omega
  have q0 : ((s[0].toNat : Int) == 224) = false := beq_eq_false_iff_ne.2 (by omega)
  have q1 : ((s[0].toNat : Int) == 240) = true := beq_iff_eq.2 (by omega)
  have q2 : ((s[0].toNat : Int) == 237) = false := beq_eq_false_iff_ne.2 (by omega)
  have q3 : ((s[0].toNat : Int) == 244) = false := beq_eq_false_iff_ne.2 (by omega)
  have e_s : Evt.sz s[0].toNat = 4 := by unfold Evt.sz; (repeat' split) <;> omega
  have e_l : Evt.lo2 s[0].toNat = 144 := by unfold Evt.lo2; (repeat' split) <;> omega
  have e_h : Evt.hi2 s[0].toNat = 191 := by unfold Evt.hi2; (repeat' split) <;> omega
  by_cases hn : (s.size : Int) < 4
  · have HV : Hid (ANS = 0) := Lib.hid (HA.out.trans (by rw [rn_at h0, byte_at' s 0 h0]; unfold Evt.rnN; rw [e_s, e_l, e_h]; (repeat' split) <;> omega))
    clear hlo hhi e_s e_l e_h
    go_enter Tryd.func121, Tryd.ntmps121
    go_wp2
    go_ret
    exact ⟨ret_int HV.out.symm, rfl⟩
  have h1 : 1 < s.size := by omega
  have h1' : (1 : Int) < (s.size : Int) := by omega
  have u1 : (s[1].toNat : Int) ≤ 255 := by have := s[1].toNat_lt; omega
  by_cases b1 : (s[1].toNat : Int) < 144
  · have HV : Hid (ANS = 0) := Lib.hid (HA.out.trans (by rw [rn_at h0, byte_at' s 0 h0]; rw [byte_at' s 1 h1]; unfold Evt.rnN; rw [e_s, e_l, e_h]; (repeat' split) <;> omega))
    clear hlo hhi e_s e_l e_h
    go_enter Tryd.func121, Tryd.ntmps121
    go_wp2
    go_ret
    exact ⟨ret_int HV.out.symm, rfl⟩
  by_cases b2 : (191 : Int) < (s[1].toNat : Int)
  · have HV : Hid (ANS = 0) := Lib.hid (HA.out.trans (by rw [rn_at h0, byte_at' s 0 h0]; rw [byte_at' s 1 h1]; unfold Evt.rnN; rw [e_s, e_l, e_h]; (repeat' split) <;> omega))
    clear hlo hhi e_s e_l e_h
    go_enter Tryd.func121, Tryd.ntmps121
    go_wp2
    go_ret
    exact ⟨ret_int HV.out.symm, rfl⟩
  have h2 : 2 < s.size := by omega
  have h2' : (2 : Int) < (s.size : Int) := by omega
  by_cases c1 : (s[2].toNat : Int) < 128
  · have HV : Hid (ANS = 0) := Lib.hid (HA.out.trans (by rw [rn_at h0, byte_at' s 0 h0]; rw [byte_at' s 1 h1]; rw [byte_at' s 2 h2]; unfold Evt.rnN; rw [e_s, e_l, e_h]; (repeat' split) <;> omega))
    clear hlo hhi e_s e_l e_h
    go_enter Tryd.func121, Tryd.ntmps121
    go_wp2
    refine wp_loop_rounds 3 ?_
    rw [rounds_succ]
    go_wp2
    go_ret
    exact ⟨ret_int HV.out.symm, rfl⟩
  by_cases c2 : (191 : Int) < (s[2].toNat : Int)
  · have HV : Hid (ANS = 0) := Lib.hid (HA.out.trans (by rw [rn_at h0, byte_at' s 0 h0]; rw [byte_at' s 1 h1]; rw [byte_at' s 2 h2]; unfold Evt.rnN; rw [e_s, e_l, e_h]; (repeat' split) <;> omega))
    clear hlo hhi e_s e_l e_h
    go_enter Tryd.func121, Tryd.ntmps121
    go_wp2
    refine wp_loop_rounds 3 ?_
    rw [rounds_succ]
    go_wp2
    go_ret
    exact ⟨ret_int HV.out.symm, rfl⟩
  have h3 : 3 < s.size := by omega
  have h3' : (3 : Int) < (s.size : Int) := by omega
  by_cases d1 : (s[3].toNat : Int) < 128
  · have HV : Hid (ANS = 0) := Lib.hid (HA.out.trans (by rw [rn_at h0, byte_at' s 0 h0]; rw [byte_at' s 1 h1]; rw [byte_at' s 2 h2]; rw [byte_at' s 3 h3]; unfold Evt.rnN; rw [e_s, e_l, e_h]; (repeat' split) <;> omega))
    clear hlo hhi e_s e_l e_h
    go_enter Tryd.func121, Tryd.ntmps121
    go_wp2
    refine wp_loop_rounds 3 ?_
    rw [rounds_succ]
    go_wp2
    rw [rounds_succ]
    go_wp2
    go_ret
    exact ⟨ret_int HV.out.symm, rfl⟩
  by_cases d2 : (191 : Int) < (s[3].toNat : Int)
  · have HV : Hid (ANS = 0) := Lib.hid (HA.out.trans (by rw [rn_at h0, byte_at' s 0 h0]; rw [byte_at' s 1 h1]; rw [byte_at' s 2 h2]; rw [byte_at' s 3 h3]; unfold Evt.rnN; rw [e_s, e_l, e_h]; (repeat' split) <;> omega))
    clear hlo hhi e_s e_l e_h
    go_enter Tryd.func121, Tryd.ntmps121
    go_wp2
    refine wp_loop_rounds 3 ?_
    rw [rounds_succ]
    go_wp2
    rw [rounds_succ]
    go_wp2
    go_ret
    exact ⟨ret_int HV.out.symm, rfl⟩
  · have HV : Hid (ANS = 4) := Lib.hid (HA.out.trans (by rw [rn_at h0, byte_at' s 0 h0]; rw [byte_at' s 1 h1]; rw [byte_at' s 2 h2]; rw [byte_at' s 3 h3]; unfold Evt.rnN; rw [e_s, e_l, e_h]; (repeat' split) <;> omega))
    clear hlo hhi e_s e_l e_h
    go_enter Tryd.func121, Tryd.ntmps121
    go_wp2
    refine wp_loop_rounds 3 ?_
    rw [rounds_succ]
    go_wp2
    rw [rounds_succ]
    go_wp2
    rw [rounds_succ]
    go_wp2
    go_ret
    exact ⟨ret_int HV.out.symm, rfl⟩

set_option maxRecDepth 100000 in
set_option maxHeartbeats 4000000 in
theorem rune_8 (s : ByteArray) (w : World) (h0 : 0 < s.size) (hlo : 241 ≤ s[0].toNat) (hhi : s[0].toNat ≤ 243) (ANS : Int) (HA : Hid (ANS = (Evt.rn s.data.toList : Int))) :
    Calls Tryd.prog 121 #[.string s] w fun ed w' => ed = .returned (.int .i64 ANS) ∧ w = w' := by
  have hz : ((s.size : Int) == 0) = false := beq_eq_false_iff_ne.2 (by omega)
  have h0' : (0 : Int) < (s.size : Int) := by omega
  have u0 : (s[0].toNat : Int) ≤ 255 := by omega
  have a1 : ¬ ((s[0].toNat : Int) < 128) := by omega
  have a2 : (194 : Int) ≤ (s[0].toNat : Int) := by omega
  have a3 : ¬ ((s[0].toNat : Int) ≤ 223) := by omega
  have a4 : (224 : Int) ≤ (s[0].toNat : Int) := by omega
  have a5 : ¬ ((s[0].toNat : Int) ≤ 239) := by omega
  have a6 : (240 : Int) ≤ (s[0].toNat : Int) := by omega
  have a7 : (s[0].toNat : Int) ≤ 244 := by omega
  have q0 : ((s[0].toNat : Int) == 224) = false := beq_eq_false_iff_ne.2 (by omega)
  have q1 : ((s[0].toNat : Int) == 240) = false := beq_eq_false_iff_ne.2 (by omega)
  have q2 : ((s[0].toNat : Int) == 237) = false := beq_eq_false_iff_ne.2 (by omega)
  have q3 : ((s[0].toNat : Int) == 244) = false := beq_eq_false_iff_ne.2 (by omega)
  have e_s : Evt.sz s[0].toNat = 4 := by unfold Evt.sz; (repeat' split) <;> omega
  have e_l : Evt.lo2 s[0].toNat = 128 := by unfold Evt.lo2; (repeat' split) <;> omega
  have e_h : Evt.hi2 s[0].toNat = 191 := by unfold Evt.hi2; (repeat' split) <;> omega
  by_cases hn : (s.size : Int) < 4
  · have HV : Hid (ANS = 0) := Lib.hid (HA.out.trans (by rw [rn_at h0, byte_at' s 0 h0]; unfold Evt.rnN; rw [e_s, e_l, e_h]; (repeat' split) <;> omega))
    clear hlo hhi e_s e_l e_h
    go_enter Tryd.func121, Tryd.ntmps121
    go_wp2
    go_ret
    exact ⟨ret_int HV.out.symm, rfl⟩
  have h1 : 1 < s.size := by omega
  have h1' : (1 : Int) < (s.size : Int) := by omega
  have u1 : (s[1].toNat : Int) ≤ 255 := by have := s[1].toNat_lt; omega
  by_cases b1 : (s[1].toNat : Int) < 128
  · have HV : Hid (ANS = 0) := Lib.hid (HA.out.trans (by rw [rn_at h0, byte_at' s 0 h0]; rw [byte_at' s 1 h1]; unfold Evt.rnN; rw [e_s, e_l, e_h]; (repeat' split) <;> omega))
    clear hlo hhi e_s e_l e_h
    go_enter Tryd.func121, Tryd.ntmps121
    go_wp2
    go_ret
    exact ⟨ret_int HV.out.symm, rfl⟩
  by_cases b2 : (191 : Int) < (s[1].toNat : Int)
  · have HV : Hid (ANS = 0) := Lib.hid (HA.out.trans (by rw [rn_at h0, byte_at' s 0 h0]; rw [byte_at' s 1 h1]; unfold Evt.rnN; rw [e_s, e_l, e_h]; (repeat' split) <;> omega))
    clear hlo hhi e_s e_l e_h
    go_enter Tryd.func121, Tryd.ntmps121
    go_wp2
    go_ret
    exact ⟨ret_int HV.out.symm, rfl⟩
  have h2 : 2 < s.size := by omega
  have h2' : (2 : Int) < (s.size : Int) := by omega
  by_cases c1 : (s[2].toNat : Int) < 128
  · have HV : Hid (ANS = 0) := Lib.hid (HA.out.trans (by rw [rn_at h0, byte_at' s 0 h0]; rw [byte_at' s 1 h1]; rw [byte_at' s 2 h2]; unfold Evt.rnN; rw [e_s, e_l, e_h]; (repeat' split) <;> omega))
    clear hlo hhi e_s e_l e_h
    go_enter Tryd.func121, Tryd.ntmps121
    go_wp2
    refine wp_loop_rounds 3 ?_
    rw [rounds_succ]
    go_wp2
    go_ret
    exact ⟨ret_int HV.out.symm, rfl⟩
  by_cases c2 : (191 : Int) < (s[2].toNat : Int)
  · have HV : Hid (ANS = 0) := Lib.hid (HA.out.trans (by rw [rn_at h0, byte_at' s 0 h0]; rw [byte_at' s 1 h1]; rw [byte_at' s 2 h2]; unfold Evt.rnN; rw [e_s, e_l, e_h]; (repeat' split) <;> omega))
    clear hlo hhi e_s e_l e_h
    go_enter Tryd.func121, Tryd.ntmps121
    go_wp2
    refine wp_loop_rounds 3 ?_
    rw [rounds_succ]
    go_wp2
    go_ret
    exact ⟨ret_int HV.out.symm, rfl⟩
  have h3 : 3 < s.size := by omega
  have h3' : (3 : Int) < (s.size : Int) := by omega
  by_cases d1 : (s[3].toNat : Int) < 128
  · have HV : Hid (ANS = 0) := Lib.hid (HA.out.trans (by rw [rn_at h0, byte_at' s 0 h0]; rw [byte_at' s 1 h1]; rw [byte_at' s 2 h2]; rw [byte_at' s 3 h3]; unfold Evt.rnN; rw [e_s, e_l, e_h]; (repeat' split) <;> omega))
    clear hlo hhi e_s e_l e_h
    go_enter Tryd.func121, Tryd.ntmps121
    go_wp2
    refine wp_loop_rounds 3 ?_
    rw [rounds_succ]
    go_wp2
    rw [rounds_succ]
    go_wp2
    go_ret
    exact ⟨ret_int HV.out.symm, rfl⟩
  by_cases d2 : (191 : Int) < (s[3].toNat : Int)
  · have HV : Hid (ANS = 0) := Lib.hid (HA.out.trans (by rw [rn_at h0, byte_at' s 0 h0]; rw [byte_at' s 1 h1]; rw [byte_at' s 2 h2]; rw [byte_at' s 3 h3]; unfold Evt.rnN; rw [e_s, e_l, e_h]; (repeat' split) <;> omega))
    clear hlo hhi e_s e_l e_h
    go_enter Tryd.func121, Tryd.ntmps121
    go_wp2
    refine wp_loop_rounds 3 ?_
    rw [rounds_succ]
    go_wp2
    rw [rounds_succ]
    go_wp2
    go_ret
    exact ⟨ret_int HV.out.symm, rfl⟩
  · have HV : Hid (ANS = 4) := Lib.hid (HA.out.trans (by rw [rn_at h0, byte_at' s 0 h0]; rw [byte_at' s 1 h1]; rw [byte_at' s 2 h2]; rw [byte_at' s 3 h3]; unfold Evt.rnN; rw [e_s, e_l, e_h]; (repeat' split) <;> omega))
    clear hlo hhi e_s e_l e_h
    go_enter Tryd.func121, Tryd.ntmps121
    go_wp2
    refine wp_loop_rounds 3 ?_
    rw [rounds_succ]
    go_wp2
    rw [rounds_succ]
    go_wp2
    rw [rounds_succ]
    go_wp2
    go_ret
    exact ⟨ret_int HV.out.symm, rfl⟩

set_option maxRecDepth 100000 in
set_option maxHeartbeats 4000000 in
theorem rune_9 (s : ByteArray) (w : World) (h0 : 0 < s.size) (hlo : 244 ≤ s[0].toNat) (hhi : s[0].toNat ≤ 244) (ANS : Int) (HA : Hid (ANS = (Evt.rn s.data.toList : Int))) :
    Calls Tryd.prog 121 #[.string s] w fun ed w' => ed = .returned (.int .i64 ANS) ∧ w = w' := by
  have hz : ((s.size : Int) == 0) = false := beq_eq_false_iff_ne.2 (by omega)
  have h0' : (0 : Int) < (s.size : Int) := by omega
  have u0 : (s[0].toNat : Int) ≤ 255 := by omega
  have a1 : ¬ ((s[0].toNat : Int) < 128) := by omega
  have a2 : (194 : Int) ≤ (s[0].toNat : Int) := by omega
  have a3 : ¬ ((s[0].toNat : Int) ≤ 223) := by omega
  have a4 : (224 : Int) ≤ (s[0].toNat : Int) := by omega
  have a5 : ¬ ((s[0].toNat : Int) ≤ 239) := by omega
  have a6 : (240 : Int) ≤ (s[0].toNat : Int) := by omega
  have a7 : (s[0].toNat : Int) ≤ 244 := by omega
  have q0 : ((s[0].toNat : Int) == 224) = false := beq_eq_false_iff_ne.2 (by omega)
  have q1 : ((s[0].toNat : Int) == 240) = false := beq_eq_false_iff_ne.2 (by omega)
  have q2 : ((s[0].toNat : Int) == 237) = false := beq_eq_false_iff_ne.2 (by omega)
  have q3 : ((s[0].toNat : Int) == 244) = true := beq_iff_eq.2 (by omega)
  have e_s : Evt.sz s[0].toNat = 4 := by unfold Evt.sz; (repeat' split) <;> omega
  have e_l : Evt.lo2 s[0].toNat = 128 := by unfold Evt.lo2; (repeat' split) <;> omega
  have e_h : Evt.hi2 s[0].toNat = 143 := by unfold Evt.hi2; (repeat' split) <;> omega
  by_cases hn : (s.size : Int) < 4
  · have HV : Hid (ANS = 0) := Lib.hid (HA.out.trans (by rw [rn_at h0, byte_at' s 0 h0]; unfold Evt.rnN; rw [e_s, e_l, e_h]; (repeat' split) <;> omega))
    clear hlo hhi e_s e_l e_h
    go_enter Tryd.func121, Tryd.ntmps121
    go_wp2
    go_ret
    exact ⟨ret_int HV.out.symm, rfl⟩
  have h1 : 1 < s.size := by omega
  have h1' : (1 : Int) < (s.size : Int) := by omega
  have u1 : (s[1].toNat : Int) ≤ 255 := by have := s[1].toNat_lt; omega
  by_cases b1 : (s[1].toNat : Int) < 128
  · have HV : Hid (ANS = 0) := Lib.hid (HA.out.trans (by rw [rn_at h0, byte_at' s 0 h0]; rw [byte_at' s 1 h1]; unfold Evt.rnN; rw [e_s, e_l, e_h]; (repeat' split) <;> omega))
    clear hlo hhi e_s e_l e_h
    go_enter Tryd.func121, Tryd.ntmps121
    go_wp2
    go_ret
    exact ⟨ret_int HV.out.symm, rfl⟩
  by_cases b2 : (191 : Int) < (s[1].toNat : Int)
  · have HV : Hid (ANS = 0) := Lib.hid (HA.out.trans (by rw [rn_at h0, byte_at' s 0 h0]; rw [byte_at' s 1 h1]; unfold Evt.rnN; rw [e_s, e_l, e_h]; (repeat' split) <;> omega))
    clear hlo hhi e_s e_l e_h
    go_enter Tryd.func121, Tryd.ntmps121
    go_wp2
    go_ret
    exact ⟨ret_int HV.out.symm, rfl⟩
  by_cases b3 : (143 : Int) < (s[1].toNat : Int)
  · have HV : Hid (ANS = 0) := Lib.hid (HA.out.trans (by rw [rn_at h0, byte_at' s 0 h0]; rw [byte_at' s 1 h1]; unfold Evt.rnN; rw [e_s, e_l, e_h]; (repeat' split) <;> omega))
    clear hlo hhi e_s e_l e_h
    go_enter Tryd.func121, Tryd.ntmps121
    go_wp2
    go_ret
    exact ⟨ret_int HV.out.symm, rfl⟩
  have h2 : 2 < s.size := by omega
  have h2' : (2 : Int) < (s.size : Int) := by omega
  by_cases c1 : (s[2].toNat : Int) < 128
  · have HV : Hid (ANS = 0) := Lib.hid (HA.out.trans (by rw [rn_at h0, byte_at' s 0 h0]; rw [byte_at' s 1 h1]; rw [byte_at' s 2 h2]; unfold Evt.rnN; rw [e_s, e_l, e_h]; (repeat' split) <;> omega))
    clear hlo hhi e_s e_l e_h
    go_enter Tryd.func121, Tryd.ntmps121
    go_wp2
    refine wp_loop_rounds 3 ?_
    rw [rounds_succ]
    go_wp2
    go_ret
    exact ⟨ret_int HV.out.symm, rfl⟩
  by_cases c2 : (191 : Int) < (s[2].toNat : Int)
  · have HV : Hid (ANS = 0) := Lib.hid (HA.out.trans (by rw [rn_at h0, byte_at' s 0 h0]; rw [byte_at' s 1 h1]; rw [byte_at' s 2 h2]; unfold Evt.rnN; rw [e_s, e_l, e_h]; (repeat' split) <;> omega))
    clear hlo hhi e_s e_l e_h
    go_enter Tryd.func121, Tryd.ntmps121
    go_wp2
    refine wp_loop_rounds 3 ?_
    rw [rounds_succ]
    go_wp2
    go_ret
    exact ⟨ret_int HV.out.symm, rfl⟩
  have h3 : 3 < s.size := by omega
  have h3' : (3 : Int) < (s.size : Int) := by omega
  by_cases d1 : (s[3].toNat : Int) < 128
  · have HV : Hid (ANS = 0) := Lib.hid (HA.out.trans (by rw [rn_at h0, byte_at' s 0 h0]; rw [byte_at' s 1 h1]; rw [byte_at' s 2 h2]; rw [byte_at' s 3 h3]; unfold Evt.rnN; rw [e_s, e_l, e_h]; (repeat' split) <;> omega))
    clear hlo hhi e_s e_l e_h
    go_enter Tryd.func121, Tryd.ntmps121
    go_wp2
    refine wp_loop_rounds 3 ?_
    rw [rounds_succ]
    go_wp2
    rw [rounds_succ]
    go_wp2
    go_ret
    exact ⟨ret_int HV.out.symm, rfl⟩
  by_cases d2 : (191 : Int) < (s[3].toNat : Int)
  · have HV : Hid (ANS = 0) := Lib.hid (HA.out.trans (by rw [rn_at h0, byte_at' s 0 h0]; rw [byte_at' s 1 h1]; rw [byte_at' s 2 h2]; rw [byte_at' s 3 h3]; unfold Evt.rnN; rw [e_s, e_l, e_h]; (repeat' split) <;> omega))
    clear hlo hhi e_s e_l e_h
    go_enter Tryd.func121, Tryd.ntmps121
    go_wp2
    refine wp_loop_rounds 3 ?_
    rw [rounds_succ]
    go_wp2
    rw [rounds_succ]
    go_wp2
    go_ret
    exact ⟨ret_int HV.out.symm, rfl⟩
  · have HV : Hid (ANS = 4) := Lib.hid (HA.out.trans (by rw [rn_at h0, byte_at' s 0 h0]; rw [byte_at' s 1 h1]; rw [byte_at' s 2 h2]; rw [byte_at' s 3 h3]; unfold Evt.rnN; rw [e_s, e_l, e_h]; (repeat' split) <;> omega))
    clear hlo hhi e_s e_l e_h
    go_enter Tryd.func121, Tryd.ntmps121
    go_wp2
    refine wp_loop_rounds 3 ?_
    rw [rounds_succ]
    go_wp2
    rw [rounds_succ]
    go_wp2
    rw [rounds_succ]
    go_wp2
    go_ret
    exact ⟨ret_int HV.out.symm, rfl⟩

set_option maxRecDepth 100000 in
set_option maxHeartbeats 4000000 in
theorem rune_10 (s : ByteArray) (w : World) (h0 : 0 < s.size) (hlo : 245 ≤ s[0].toNat) (hhi : s[0].toNat ≤ 255) (ANS : Int) (HA : Hid (ANS = (Evt.rn s.data.toList : Int))) :
    Calls Tryd.prog 121 #[.string s] w fun ed w' => ed = .returned (.int .i64 ANS) ∧ w = w' := by
  have hz : ((s.size : Int) == 0) = false := beq_eq_false_iff_ne.2 (by omega)
  have h0' : (0 : Int) < (s.size : Int) := by omega
  have u0 : (s[0].toNat : Int) ≤ 255 := by omega
  have a1 : ¬ ((s[0].toNat : Int) < 128) := by omega
  have a2 : (194 : Int) ≤ (s[0].toNat : Int) := by omega
  have a3 : ¬ ((s[0].toNat : Int) ≤ 223) := by omega
  have a4 : (224 : Int) ≤ (s[0].toNat : Int) := by omega
  have a5 : ¬ ((s[0].toNat : Int) ≤ 239) := by omega
  have a6 : (240 : Int) ≤ (s[0].toNat : Int) := by omega
  have a7 : ¬ ((s[0].toNat : Int) ≤ 244) := by omega
  have q0 : ((s[0].toNat : Int) == 224) = false := beq_eq_false_iff_ne.2 (by omega)
  have q1 : ((s[0].toNat : Int) == 240) = false := beq_eq_false_iff_ne.2 (by omega)
  have q2 : ((s[0].toNat : Int) == 237) = false := beq_eq_false_iff_ne.2 (by omega)
  have q3 : ((s[0].toNat : Int) == 244) = false := beq_eq_false_iff_ne.2 (by omega)
  have e_s : Evt.sz s[0].toNat = 0 := by unfold Evt.sz; (repeat' split) <;> omega
  have e_l : Evt.lo2 s[0].toNat = 128 := by unfold Evt.lo2; (repeat' split) <;> omega
  have e_h : Evt.hi2 s[0].toNat = 191 := by unfold Evt.hi2; (repeat' split) <;> omega
  have HV : Hid (ANS = 0) := Lib.hid (HA.out.trans (by rw [rn_at h0, byte_at' s 0 h0]; unfold Evt.rnN; rw [e_s, e_l, e_h]; (repeat' split) <;> omega))
  clear hlo hhi e_s e_l e_h
  go_enter Tryd.func121, Tryd.ntmps121
  go_wp2
  go_ret
  exact ⟨ret_int HV.out.symm, rfl⟩

theorem rune_nil (s : ByteArray) (w : World) (h0 : s.size = 0) : Calls Tryd.prog 121 #[.string s] w fun ed w' => ed = .returned (.int .i64 0) ∧ w = w' := by
  have hz : ((s.size : Int) == 0) = true := beq_iff_eq.2 (by omega)
  go_enter Tryd.func121, Tryd.ntmps121
  go_wp2
  go_ret
  exact ⟨rfl, rfl⟩
theorem rune_any (s : ByteArray) (w : World) : Calls Tryd.prog 121 #[.string s] w fun ed w' => ed = .returned (.int .i64 (Evt.rn s.data.toList : Int)) ∧ w = w' := by
  by_cases h0 : s.size = 0
  · have : Evt.rn s.data.toList = 0 := by unfold Evt.rn; rw [if_pos (List.eq_nil_of_length_eq_zero (by simpa using h0))]
    rw [this]
    exact rune_nil s w h0
  · have h1 : 0 < s.size := by omega
    have hb := s[0].toNat_lt
    have H : Hid ((Evt.rn s.data.toList : Int) = (Evt.rn s.data.toList : Int)) := Lib.hid rfl
    by_cases c0 : s[0].toNat ≤ 127
    · exact rune_0 s w h1 (by omega) c0 _ H
    by_cases c1 : s[0].toNat ≤ 193
    · exact rune_1 s w h1 (by omega) c1 _ H
    by_cases c2 : s[0].toNat ≤ 223
    · exact rune_2 s w h1 (by omega) c2 _ H
    by_cases c3 : s[0].toNat ≤ 224
    · exact rune_3 s w h1 (by omega) c3 _ H
    by_cases c4 : s[0].toNat ≤ 236
    · exact rune_4 s w h1 (by omega) c4 _ H
    by_cases c5 : s[0].toNat ≤ 237
    · exact rune_5 s w h1 (by omega) c5 _ H
    by_cases c6 : s[0].toNat ≤ 239
    · exact rune_6 s w h1 (by omega) c6 _ H
    by_cases c7 : s[0].toNat ≤ 240
    · exact rune_7 s w h1 (by omega) c7 _ H
    by_cases c8 : s[0].toNat ≤ 243
    · exact rune_8 s w h1 (by omega) c8 _ H
    by_cases c9 : s[0].toNat ≤ 244
    · exact rune_9 s w h1 (by omega) c9 _ H
    exact rune_10 s w h1 (by omega) (by omega) _ H
theorem rune_is {s : ByteArray} {n : Int} (h : (Evt.rn s.data.toList : Int) = n) (w : World) : Calls Tryd.prog 121 #[.string s] w fun ed w' => ed = .returned (.int .i64 n) ∧ w = w' := by subst h; exact rune_any s w
end Go.Proofs.YtnfnonlbokddfaaDoor
