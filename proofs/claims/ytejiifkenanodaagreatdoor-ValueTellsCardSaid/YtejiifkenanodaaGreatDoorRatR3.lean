/-
  The contracts of the reference's Text and ReadNumber.
-/
import Derived.Test.YtejiifkenanodaaGreatDoorRatR2
namespace Go.Proofs.YtejiifkenanodaaGreatDoor
open Go.RowKit

/-! ### ReadNumber -/
def isDig (c : UInt8) : Bool := decide (48 ≤ c.toNat) && decide (c.toNat ≤ 57)
def stepN (v : Int) (c : UInt8) : Int := wrap64 (wrap64 (v * 10) + ((c.toNat : Int) - 48))
def valN (l : List UInt8) : Int := l.foldl stepN 0
theorem valN_snoc (l : List UInt8) (c : UInt8) : valN (l ++ [c]) = stepN (valN l) c := by unfold valN; rw [List.foldl_append]; rfl
theorem take_snoc (s : ByteArray) (k : Nat) (h : k < s.size) : s.data.toList.take (k + 1) = s.data.toList.take k ++ [s[k]] := by
  rw [List.take_succ_eq_append_getElem (by simpa using h)]; rfl

def NumRel (T : ByteArray) (x i : Value) : Prop := ∃ k : Nat, k ≤ T.size ∧ i = .int .i64 k ∧ x = .int .i64 (valN (T.data.toList.take k)) ∧ (∀ c ∈ T.data.toList.take k, isDig c = true)
theorem NumRel.snoc {T : ByteArray} {k : Nat} (hk : k < T.size) (h1 : ∀ c ∈ T.data.toList.take k, isDig c = true) (h2 : isDig T[k] = true) : ∀ c ∈ T.data.toList.take (k + 1), isDig c = true := by
  intro c hc
  rw [take_snoc T k hk, List.mem_append] at hc
  rcases hc with hc | hc
  · exact h1 c hc
  · simp only [List.mem_singleton] at hc; subst hc; exact h2

/-- What the loop leaves: a number, or none. -/
def readPart (l : List UInt8) : Option Int := if l.length < 1 ∨ 19 < l.length then none else if l.all isDig then some (valN l) else none
def readPos (l : List UInt8) : Int × Bool := match readPart l with | some v => (v, Lib.itoa v == l) | none => (0, false)
def readNeg (l r : List UInt8) : Int × Bool := match readPart r with | some v => (wrap64 (-v), Lib.itoa (wrap64 (-v)) == l) | none => (0, false)
def readNum (l : List UInt8) : Int × Bool := match l with
  | [] => (0, false)
  | c :: r => if c.toNat = 45 then readNeg l r else readPos l


theorem readPart_bad {l : List UInt8} {c : UInt8} (hc : c ∈ l) (h : ¬ isDig c = true) : readPart l = none := by
  unfold readPart
  split
  · rfl
  · rw [if_neg]
    intro ha
    exact h (List.all_eq_true.1 ha c hc)
theorem readPart_ok {l : List UInt8} (h1 : 1 ≤ l.length) (h2 : l.length ≤ 19) (h : ∀ c ∈ l, isDig c = true) : readPart l = some (valN l) := by
  unfold readPart
  rw [if_neg (by omega), if_pos (List.all_eq_true.2 h)]
theorem readPart_len {l : List UInt8} (h : l.length < 1 ∨ 19 < l.length) : readPart l = none := by
  unfold readPart; rw [if_pos h]
theorem valN_i64 (l : List UInt8) : Rat.I64 (valN l) := by
  rcases List.eq_nil_or_concat l with rfl | ⟨r, c, rfl⟩
  · unfold valN Rat.I64; simp
  · rw [List.concat_eq_append, valN_snoc]; exact i64_wrap64 _
theorem mem_at (T : ByteArray) (k : Nat) (h : k < T.size) : T[k] ∈ T.data.toList := by
  have : T.data.toList[k]'(by simpa using h) = T[k] := rfl
  rw [← this]; exact List.getElem_mem _
def NumPost (r : Int × Bool) (w : World) (e : Ending) (w' : World) : Prop := e = .returned (.tuple #[.int .i64 r.1, .bool r.2]) ∧ Below w.heap.size w w'

set_option maxRecDepth 100000 in
set_option maxHeartbeats 2000000 in
theorem readNumber_pos (s : ByteArray) (w : World) (h0 : 0 < s.size) (h45 : ((s[0].toNat : Int) == 45) = false) (hs : s.size ≤ 30) :
    Calls Tryz.prog 38 #[.string s] w (NumPost (readPos s.data.toList) w) := by
  have hl := Lib.size_eq s
  by_cases h19 : 19 < s.size
  · have HP : Hid (readPos s.data.toList = (0, false)) := Lib.hid (by unfold readPos; rw [readPart_len (by omega)])
    clear hl
    go_enter Tryz.func38, Tryz.ntmps38
    go_wp2
    go_ret2
    rw [HP.out]
    exact ⟨rfl, Below.refl _ _⟩
  have HL := Lib.hid hl
  clear hl
  go_enter Tryz.func38, Tryz.ntmps38
  go_wp2
  go_loop [5, 6] (NumRel s) (fun _ i => s.size - (intOf i).toNat)
  case atStart => exact ⟨0, Nat.zero_le _, rfl, rfl, by simp⟩
  case round =>
    obtain ⟨k, hk, rfl, rfl, hd⟩ := hrel
    have HD := Lib.hid hd
    clear hd
    by_cases hlt : k < s.size
    · have HT := Lib.hid (take_snoc s k hlt)
      have HS := Lib.hid (valN_snoc (s.data.toList.take k) s[k])
      by_cases hg : isDig s[k] = true
      · have hg1 : 48 ≤ s[k].toNat ∧ s[k].toNat ≤ 57 := by unfold isDig at hg; simpa using hg
        have HG := Lib.hid hg
        clear hg
        obtain ⟨g1, g2⟩ := hg1
        have HN := Lib.hid (NumRel.snoc hlt HD.out HG.out)
        generalize valN (s.data.toList.take k) = v at *
        go_wp2
        refine ⟨⟨k + 1, by omega, by go_num, ?_, HN.out⟩, by simp [intOf]; omega⟩
        rw [HT.out, HS.out]
        rfl
      · have hg1 : s[k].toNat < 48 ∨ 57 < s[k].toNat := by unfold isDig at hg; simp at hg; omega
        have HG := Lib.hid hg
        clear hg
        generalize valN (s.data.toList.take k) = v at *
        rcases hg1 with g | g
        all_goals
          go_wp2
          go_ret2
          have hp : readPos s.data.toList = (0, false) := by unfold readPos; rw [readPart_bad (mem_at s k hlt) HG.out]
          rw [hp]
          exact ⟨rfl, Below.refl _ _⟩
    · obtain rfl : k = s.size := by omega
      have HV : Hid (s.data.toList.take s.size = s.data.toList) := Lib.hid (List.take_of_length_le (by rw [← Lib.size_eq]; exact Nat.le_refl _))
      rw [HV.out]
      have HA := Lib.hid (fun c hc => HD.out c (by rw [HV.out]; exact hc))
      have hi := valN_i64 s.data.toList
      have HP : Hid (readPos s.data.toList = (valN s.data.toList, Lib.itoa (valN s.data.toList) == s.data.toList)) := Lib.hid (by unfold readPos; rw [readPart_ok (by have := HL.out; omega) (by have := HL.out; omega) HA.out])
      generalize valN s.data.toList = v at *
      go_wp2_with fail
      refine (number_any _ _ hi).mono ?_
      rintro e w2 ⟨rfl, hb⟩
      go_wp2
      go_ret2
      rw [HP.out]
      exact ⟨by simp [ByteArray.toList_eq], hb⟩
set_option maxRecDepth 100000 in
set_option maxHeartbeats 2000000 in
theorem readNumber_neg (s T : ByteArray) (w : World) (h0 : 0 < s.size) (h45 : ((s[0].toNat : Int) == 45) = true) (hs : s.size ≤ 30) (hX : s.extract 1 s.size = T) (hT : T.size + 1 = s.size) :
    Calls Tryz.prog 38 #[.string s] w (NumPost (readNeg s.data.toList T.data.toList) w) := by
  have hl := Lib.size_eq T
  have HSZ := Lib.hid hT
  have h1 : T.size < s.size := by omega
  clear hT
  by_cases hz : T.size < 1
  · have HP : Hid (readNeg s.data.toList T.data.toList = (0, false)) := Lib.hid (by unfold readNeg; rw [readPart_len (by omega)])
    clear hl
    go_enter Tryz.func38, Tryz.ntmps38
    go_wp2
    go_ret2
    rw [HP.out]
    exact ⟨rfl, Below.refl _ _⟩
  by_cases h19 : 19 < T.size
  · have HP : Hid (readNeg s.data.toList T.data.toList = (0, false)) := Lib.hid (by unfold readNeg; rw [readPart_len (by omega)])
    clear hl
    go_enter Tryz.func38, Tryz.ntmps38
    go_wp2
    go_ret2
    rw [HP.out]
    exact ⟨rfl, Below.refl _ _⟩
  have HL := Lib.hid hl
  clear hl
  go_enter Tryz.func38, Tryz.ntmps38
  go_wp2
  go_loop [5, 6] (NumRel T) (fun _ i => T.size - (intOf i).toNat)
  case atStart => exact ⟨0, Nat.zero_le _, rfl, rfl, by simp⟩
  case round =>
    obtain ⟨k, hk, rfl, rfl, hd⟩ := hrel
    have HD := Lib.hid hd
    clear hd
    by_cases hlt : k < T.size
    · have HT := Lib.hid (take_snoc T k hlt)
      have HS := Lib.hid (valN_snoc (T.data.toList.take k) T[k])
      by_cases hg : isDig T[k] = true
      · have hg1 : 48 ≤ T[k].toNat ∧ T[k].toNat ≤ 57 := by unfold isDig at hg; simpa using hg
        have HG := Lib.hid hg
        clear hg
        obtain ⟨g1, g2⟩ := hg1
        have HN := Lib.hid (NumRel.snoc hlt HD.out HG.out)
        generalize valN (T.data.toList.take k) = v at *
        go_wp2
        refine ⟨⟨k + 1, by omega, by go_num, ?_, HN.out⟩, by simp [intOf]; omega⟩
        rw [HT.out, HS.out]
        rfl
      · have hg1 : T[k].toNat < 48 ∨ 57 < T[k].toNat := by unfold isDig at hg; simp at hg; omega
        have HG := Lib.hid hg
        clear hg
        generalize valN (T.data.toList.take k) = v at *
        rcases hg1 with g | g
        all_goals
          go_wp2
          go_ret2
          have hp : readNeg s.data.toList T.data.toList = (0, false) := by unfold readNeg; rw [readPart_bad (mem_at T k hlt) HG.out]
          rw [hp]
          exact ⟨rfl, Below.refl _ _⟩
    · obtain rfl : k = T.size := by omega
      have HV : Hid (T.data.toList.take T.size = T.data.toList) := Lib.hid (List.take_of_length_le (by rw [← Lib.size_eq]; exact Nat.le_refl _))
      rw [HV.out]
      have HA := Lib.hid (fun c hc => HD.out c (by rw [HV.out]; exact hc))
      have HP : Hid (readNeg s.data.toList T.data.toList = (wrap64 (-valN T.data.toList), Lib.itoa (wrap64 (-valN T.data.toList)) == s.data.toList)) := Lib.hid (by unfold readNeg; rw [readPart_ok (by have := HL.out; omega) (by have := HL.out; omega) HA.out])
      generalize valN T.data.toList = v at *
      go_wp2_with fail
      refine (number_any _ _ (i64_wrap64 _)).mono ?_
      rintro e w2 ⟨rfl, hb⟩
      go_wp2
      go_ret2
      rw [HP.out]
      exact ⟨by simp [ByteArray.toList_eq], hb⟩

set_option maxRecDepth 100000 in
set_option maxHeartbeats 2000000 in
theorem readNumber_empty (s : ByteArray) (w : World) (h0 : s.size = 0) : Calls Tryz.prog 38 #[.string s] w (NumPost (0, false) w) := by
  have hs : s = ⟨#[]⟩ := by
    obtain ⟨⟨l⟩⟩ := s
    have : l.length = 0 := h0
    rw [List.length_eq_zero_iff] at this
    subst this; rfl
  subst hs
  go_enter Tryz.func38, Tryz.ntmps38
  go_wp2
  go_ret2
  exact ⟨rfl, Below.refl _ _⟩

theorem readNumber_any (s : ByteArray) (w : World) (hs : s.size ≤ 30) : Calls Tryz.prog 38 #[.string s] w (NumPost (readNum s.data.toList) w) := by
  by_cases h0 : s.size = 0
  · have e : readNum s.data.toList = (0, false) := by
      have := Lib.size_eq s
      have : s.data.toList = [] := List.length_eq_zero_iff.1 (by omega)
      rw [this]; rfl
    rw [e]; exact readNumber_empty s w h0
  · have h0' : 0 < s.size := by omega
    have hl : s.data.toList = s[0] :: s.data.toList.drop 1 := by
      have h : 0 < s.data.toList.length := by rw [← Lib.size_eq]; exact h0'
      have := List.drop_eq_getElem_cons h
      rw [List.drop_zero] at this
      exact this
    have e : readNum s.data.toList = if s[0].toNat = 45 then readNeg s.data.toList (s.data.toList.drop 1) else readPos s.data.toList := by
      rw [hl]; rfl
    by_cases h45 : s[0].toNat = 45
    · rw [e, if_pos h45]
      have ht : (s.extract 1 s.size).data.toList = s.data.toList.drop 1 := by
        rw [Lib.extract_data, List.take_of_length_le]
        simp
      rw [← ht]
      exact readNumber_neg s _ w h0' (by simp [h45]) hs rfl (by rw [ByteArray.size_extract]; omega)
    · rw [e, if_neg h45]
      exact readNumber_pos s w h0' (by simp; omega) hs
end Go.Proofs.YtejiifkenanodaaGreatDoor
