/-
  The contract of the reference's Read.
-/
import Derived.Test.YtoopchnncjfjoaaDoorPitG
import Derived.Test.YtoopchnncjfjoaaDoorPitRefC
namespace Go.Proofs.YtoopchnncjfjoaaDoor
open Go.RowKit

set_option maxRecDepth 100000 in
set_option maxHeartbeats 4000000 in
theorem refRead_short (s : ByteArray) (w : World) (h : (s.size : Int) < 2) :
    Calls Tryd.prog 30 #[.string s] w fun e w' => e = .returned (pv 0 0 0 21) ∧ Below w.heap.size w w' := by
  go_enter Tryd.func30, Tryd.ntmps30
  go_wp2
  exact bodyPost_ret (v := pv 0 0 0 21) (by simp [results, Tryd.results30, go_sem]) rfl ⟨rfl, (by repeat (first | exact Below.refl _ _ | refine below_drewN ?_ _ | refine Below.drew ?_ | refine Below.setCell ?_ (by simp) _ | refine Below.alloc ?_ (by simp) _))⟩

set_option maxRecDepth 100000 in
set_option maxHeartbeats 4000000 in
theorem refRead_long (s : ByteArray) (w : World) (h0 : ¬ (s.size : Int) < 2) (h : 5 < (s.size : Int)) :
    Calls Tryd.prog 30 #[.string s] w fun e w' => e = .returned (pv 0 0 0 21) ∧ Below w.heap.size w w' := by
  go_enter Tryd.func30, Tryd.ntmps30
  go_wp2
  exact bodyPost_ret (v := pv 0 0 0 21) (by simp [results, Tryd.results30, go_sem]) rfl ⟨rfl, (by repeat (first | exact Below.refl _ _ | refine below_drewN ?_ _ | refine Below.drew ?_ | refine Below.setCell ?_ (by simp) _ | refine Below.alloc ?_ (by simp) _))⟩

structure RdW (w wr : World) : Prop where
  r0 : wr.cell? ⟨w.heap.size, 0, none⟩ = some (.int .i64 0)
  r1 : wr.cell? ⟨w.heap.size, 1, none⟩ = some (.int .i64 0)
  r2 : wr.cell? ⟨w.heap.size, 2, none⟩ = some (.int .i64 0)
  f0 : wr.frozen? ⟨w.heap.size, 0, none⟩ = false
  f1 : wr.frozen? ⟨w.heap.size, 1, none⟩ = false
  f2 : wr.frozen? ⟨w.heap.size, 2, none⟩ = false
  below : Below w.heap.size w wr
theorem RdW.later {w wr wx : World} (h : RdW w wr) (hb : Below wr.heap.size wr wx) : RdW w wx :=
  ⟨cell_later hb h.r0, cell_later hb h.r1, cell_later hb h.r2, frozen_later hb h.r0 h.f0, frozen_later hb h.r1 h.f1, frozen_later hb h.r2 h.f2, below_two h.below hb⟩
theorem RdW.start (w : World) (t : TypeId) : RdW w (w.alloc (.cells #[.int .i64 0, .int .i64 0, .int .i64 0] t)) :=
  ⟨by go_simp, by go_simp, by go_simp, by go_simp, by go_simp, by go_simp, (Below.refl _ _).alloc (Nat.le_refl _) _⟩
def RdRel (w : World) (lo hi : Int) (i : Value) (wr : World) : Prop := ∃ x : Int, i = .int .i64 x ∧ lo ≤ x ∧ x ≤ hi ∧ RdW w wr

set_option maxRecDepth 100000 in
set_option maxHeartbeats 4000000 in
theorem refRead_none_m (s : ByteArray) (w : World) (k : Nat) (h0 : 2 ≤ k + 1) (h5 : k + 1 ≤ 5) (hk : s.size = k + 1) (heq : ((s.extract (k - 1) (k + 1)).toList == [45, 49]) = true) (HMiss : Hid (∀ st al : Int, Pit.right st al (-1) = true → Pit.txt st al (-1) ≠ s.data.toList)) :
    Calls Tryd.prog 30 #[.string s] w fun e w' => e = .returned (pv 0 0 0 21) ∧ Below w.heap.size w w' := by
  go_enter Tryd.func30, Tryd.ntmps30
  have hU := RdW.start w 23
  go_wp2_with fail
  generalize w.alloc (.cells #[.int .i64 0, .int .i64 0, .int .i64 0] 23) = w1 at *
  go_loopw [5] (fun i wr => RdRel w 0 (7) i wr) (fun i _ => (7 - intOf i).toNat)
  case atStart => exact ⟨0, rfl, by omega, by omega, hU⟩
  case round =>
    clear hU
    obtain ⟨st, rfl, t0, t1, hU⟩ := hrel
    by_cases hst : st < 7
    · go_wp2_with fail
      go_loopw [6] (fun i wr => RdRel w (-2) (3) i wr) (fun i _ => (3 - intOf i).toNat)
      case atStart => exact ⟨-2, rfl, by omega, by omega, hU⟩
      case round =>
        clear hU
        obtain ⟨al, rfl, a0, a1, hU⟩ := hrel
        by_cases ha : al ≤ 2
        · cases hrt : Pit.right st al (-1) with
          | false =>
            have HRt := Lib.hid hrt
            clear hrt
            go_wp2_with fail
            have hs2 := alloc_below (o := .cells #[.int .i64 st, .int .i64 al, .int .i64 (-1)] 23) (Below.refl wr.heap.size wr)
            have q0 : (wr.alloc (.cells #[.int .i64 st, .int .i64 al, .int .i64 (-1)] 23)).cell? ⟨wr.heap.size, 0, none⟩ = some (.int .i64 st) := by go_simp
            have q1 : (wr.alloc (.cells #[.int .i64 st, .int .i64 al, .int .i64 (-1)] 23)).cell? ⟨wr.heap.size, 1, none⟩ = some (.int .i64 al) := by go_simp
            have q2 : (wr.alloc (.cells #[.int .i64 st, .int .i64 al, .int .i64 (-1)] 23)).cell? ⟨wr.heap.size, 2, none⟩ = some (.int .i64 (-1)) := by go_simp
            have HU := Lib.hid (hU.later hs2)
            clear hs2 hU
            generalize wr.alloc (.cells #[.int .i64 st, .int .i64 al, .int .i64 (-1)] 23) = w3 at *
            refine (refText_any _ _ _ _).mono ?_
            rintro e w4 ⟨rfl, hb⟩
            replace q0 := cell_later hb q0
            replace q1 := cell_later hb q1
            replace q2 := cell_later hb q2
            replace HU := Lib.hid (HU.out.later hb)
            clear hb
            rw [HRt.out]
            simp only [txtV, errP, if_false, Bool.false_eq_true]
            go_wp2
            exact ⟨⟨al + 1, by go_num, by omega, by omega, HU.out⟩, by simp [intOf]; omega⟩
          | true =>
            obtain ⟨TT, hTT⟩ : ∃ TT, txtV true st al (-1) = TT := ⟨_, rfl⟩
            have HM := Lib.hid hTT
            have hMN : (TT == s.toList) = false := by
              have := HMiss.out st al  hrt
              rw [← hTT, ByteArray.toList_eq]
              simpa [txtV] using this
            have HRt := Lib.hid hrt
            clear hrt hTT
            go_wp2_with fail
            have hs2 := alloc_below (o := .cells #[.int .i64 st, .int .i64 al, .int .i64 (-1)] 23) (Below.refl wr.heap.size wr)
            have q0 : (wr.alloc (.cells #[.int .i64 st, .int .i64 al, .int .i64 (-1)] 23)).cell? ⟨wr.heap.size, 0, none⟩ = some (.int .i64 st) := by go_simp
            have q1 : (wr.alloc (.cells #[.int .i64 st, .int .i64 al, .int .i64 (-1)] 23)).cell? ⟨wr.heap.size, 1, none⟩ = some (.int .i64 al) := by go_simp
            have q2 : (wr.alloc (.cells #[.int .i64 st, .int .i64 al, .int .i64 (-1)] 23)).cell? ⟨wr.heap.size, 2, none⟩ = some (.int .i64 (-1)) := by go_simp
            have HU := Lib.hid (hU.later hs2)
            clear hs2 hU
            generalize wr.alloc (.cells #[.int .i64 st, .int .i64 al, .int .i64 (-1)] 23) = w3 at *
            refine (refText_any _ _ _ _).mono ?_
            rintro e w4 ⟨rfl, hb⟩
            replace q0 := cell_later hb q0
            replace q1 := cell_later hb q1
            replace q2 := cell_later hb q2
            replace HU := Lib.hid (HU.out.later hb)
            clear hb
            rw [HRt.out, HM.out]
            simp only [errP, if_true]
            go_wp2
            exact ⟨⟨al + 1, by go_num, by omega, by omega, HU.out⟩, by simp [intOf]; omega⟩
        · obtain rfl : al = 3 := by omega
          have HU := Lib.hid hU
          clear hU
          go_wp2
          exact ⟨⟨st + 1, by go_num, by omega, by omega, HU.out⟩, by simp [intOf]; omega⟩
    · obtain rfl : st = 7 := by omega
      obtain ⟨r0, r1, r2, f0, f1, f2, hB⟩ := hU
      obtain ⟨m0, m1, m2⟩ := put3_of (x := .int .i64 0) (y := .int .i64 0) (z := .int .i64 0) r0 r1 r2
      go_wp2
      exact bodyPost_ret (v := pv 0 0 0 21) (by simp [results, Tryd.results30, go_sem, m0, m1, m2]) rfl ⟨rfl, put3_below hB (by omega)⟩

set_option maxRecDepth 100000 in
set_option maxHeartbeats 4000000 in
theorem refRead_some_m (s : ByteArray) (w : World) (k : Nat) (h0 : 2 ≤ k + 1) (h5 : k + 1 ≤ 5) (hk : s.size = k + 1) (heq : ((s.extract (k - 1) (k + 1)).toList == [45, 49]) = true) (sx ax : Int) (x0 : 0 ≤ sx) (x6 : sx ≤ 6) (y0 : -2 ≤ ax) (y2 : ax ≤ 2) (TX : List UInt8) (HTX : Hid (TX = s.data.toList)) (HTX2 : Hid (txtV true sx ax (-1) = TX)) (HRX : Hid (Pit.right sx ax (-1) = true)) (HMiss : Hid (∀ st al : Int, (st ≠ sx ∨ al ≠ ax) → Pit.right st al (-1) = true → Pit.txt st al (-1) ≠ s.data.toList)) :
    Calls Tryd.prog 30 #[.string s] w fun e w' => e = .returned (pv sx ax (-1) 0) ∧ Below w.heap.size w w' := by
  go_enter Tryd.func30, Tryd.ntmps30
  have hU := RdW.start w 23
  go_wp2_with fail
  generalize w.alloc (.cells #[.int .i64 0, .int .i64 0, .int .i64 0] 23) = w1 at *
  go_loopw [5] (fun i wr => RdRel w 0 (sx) i wr) (fun i _ => (7 - intOf i).toNat)
  case atStart => exact ⟨0, rfl, by omega, by omega, hU⟩
  case round =>
    clear hU
    obtain ⟨st, rfl, t0, t1, hU⟩ := hrel
    by_cases hst : st < sx
    · go_wp2_with fail
      go_loopw [6] (fun i wr => RdRel w (-2) (3) i wr) (fun i _ => (3 - intOf i).toNat)
      case atStart => exact ⟨-2, rfl, by omega, by omega, hU⟩
      case round =>
        clear hU
        obtain ⟨al, rfl, a0, a1, hU⟩ := hrel
        by_cases ha : al ≤ 2
        · cases hrt : Pit.right st al (-1) with
          | false =>
            have HRt := Lib.hid hrt
            clear hrt
            go_wp2_with fail
            have hs2 := alloc_below (o := .cells #[.int .i64 st, .int .i64 al, .int .i64 (-1)] 23) (Below.refl wr.heap.size wr)
            have q0 : (wr.alloc (.cells #[.int .i64 st, .int .i64 al, .int .i64 (-1)] 23)).cell? ⟨wr.heap.size, 0, none⟩ = some (.int .i64 st) := by go_simp
            have q1 : (wr.alloc (.cells #[.int .i64 st, .int .i64 al, .int .i64 (-1)] 23)).cell? ⟨wr.heap.size, 1, none⟩ = some (.int .i64 al) := by go_simp
            have q2 : (wr.alloc (.cells #[.int .i64 st, .int .i64 al, .int .i64 (-1)] 23)).cell? ⟨wr.heap.size, 2, none⟩ = some (.int .i64 (-1)) := by go_simp
            have HU := Lib.hid (hU.later hs2)
            clear hs2 hU
            generalize wr.alloc (.cells #[.int .i64 st, .int .i64 al, .int .i64 (-1)] 23) = w3 at *
            refine (refText_any _ _ _ _).mono ?_
            rintro e w4 ⟨rfl, hb⟩
            replace q0 := cell_later hb q0
            replace q1 := cell_later hb q1
            replace q2 := cell_later hb q2
            replace HU := Lib.hid (HU.out.later hb)
            clear hb
            rw [HRt.out]
            simp only [txtV, errP, if_false, Bool.false_eq_true]
            go_wp2
            exact ⟨⟨al + 1, by go_num, by omega, by omega, HU.out⟩, by simp [intOf]; omega⟩
          | true =>
            obtain ⟨TT, hTT⟩ : ∃ TT, txtV true st al (-1) = TT := ⟨_, rfl⟩
            have HM := Lib.hid hTT
            have hMN : (TT == s.toList) = false := by
              have := HMiss.out st al (Or.inl (by omega)) hrt
              rw [← hTT, ByteArray.toList_eq]
              simpa [txtV] using this
            have HRt := Lib.hid hrt
            clear hrt hTT
            go_wp2_with fail
            have hs2 := alloc_below (o := .cells #[.int .i64 st, .int .i64 al, .int .i64 (-1)] 23) (Below.refl wr.heap.size wr)
            have q0 : (wr.alloc (.cells #[.int .i64 st, .int .i64 al, .int .i64 (-1)] 23)).cell? ⟨wr.heap.size, 0, none⟩ = some (.int .i64 st) := by go_simp
            have q1 : (wr.alloc (.cells #[.int .i64 st, .int .i64 al, .int .i64 (-1)] 23)).cell? ⟨wr.heap.size, 1, none⟩ = some (.int .i64 al) := by go_simp
            have q2 : (wr.alloc (.cells #[.int .i64 st, .int .i64 al, .int .i64 (-1)] 23)).cell? ⟨wr.heap.size, 2, none⟩ = some (.int .i64 (-1)) := by go_simp
            have HU := Lib.hid (hU.later hs2)
            clear hs2 hU
            generalize wr.alloc (.cells #[.int .i64 st, .int .i64 al, .int .i64 (-1)] 23) = w3 at *
            refine (refText_any _ _ _ _).mono ?_
            rintro e w4 ⟨rfl, hb⟩
            replace q0 := cell_later hb q0
            replace q1 := cell_later hb q1
            replace q2 := cell_later hb q2
            replace HU := Lib.hid (HU.out.later hb)
            clear hb
            rw [HRt.out, HM.out]
            simp only [errP, if_true]
            go_wp2
            exact ⟨⟨al + 1, by go_num, by omega, by omega, HU.out⟩, by simp [intOf]; omega⟩
        · obtain rfl : al = 3 := by omega
          have HU := Lib.hid hU
          clear hU
          go_wp2
          exact ⟨⟨st + 1, by go_num, by omega, by omega, HU.out⟩, by simp [intOf]; omega⟩
    · obtain rfl : st = sx := by omega
      go_wp2_with fail
      go_loopw [6] (fun i wr => RdRel w (-2) (ax) i wr) (fun i _ => (3 - intOf i).toNat)
      case atStart => exact ⟨-2, rfl, by omega, by omega, hU⟩
      case round =>
        clear hU
        obtain ⟨al, rfl, a0, a1, hU⟩ := hrel
        by_cases ha : al < ax
        · cases hrt : Pit.right st al (-1) with
          | false =>
            have HRt := Lib.hid hrt
            clear hrt
            go_wp2_with fail
            have hs2 := alloc_below (o := .cells #[.int .i64 st, .int .i64 al, .int .i64 (-1)] 23) (Below.refl wr.heap.size wr)
            have q0 : (wr.alloc (.cells #[.int .i64 st, .int .i64 al, .int .i64 (-1)] 23)).cell? ⟨wr.heap.size, 0, none⟩ = some (.int .i64 st) := by go_simp
            have q1 : (wr.alloc (.cells #[.int .i64 st, .int .i64 al, .int .i64 (-1)] 23)).cell? ⟨wr.heap.size, 1, none⟩ = some (.int .i64 al) := by go_simp
            have q2 : (wr.alloc (.cells #[.int .i64 st, .int .i64 al, .int .i64 (-1)] 23)).cell? ⟨wr.heap.size, 2, none⟩ = some (.int .i64 (-1)) := by go_simp
            have HU := Lib.hid (hU.later hs2)
            clear hs2 hU
            generalize wr.alloc (.cells #[.int .i64 st, .int .i64 al, .int .i64 (-1)] 23) = w3 at *
            refine (refText_any _ _ _ _).mono ?_
            rintro e w4 ⟨rfl, hb⟩
            replace q0 := cell_later hb q0
            replace q1 := cell_later hb q1
            replace q2 := cell_later hb q2
            replace HU := Lib.hid (HU.out.later hb)
            clear hb
            rw [HRt.out]
            simp only [txtV, errP, if_false, Bool.false_eq_true]
            go_wp2
            exact ⟨⟨al + 1, by go_num, by omega, by omega, HU.out⟩, by simp [intOf]; omega⟩
          | true =>
            obtain ⟨TT, hTT⟩ : ∃ TT, txtV true st al (-1) = TT := ⟨_, rfl⟩
            have HM := Lib.hid hTT
            have hMN : (TT == s.toList) = false := by
              have := HMiss.out st al (Or.inr (by omega)) hrt
              rw [← hTT, ByteArray.toList_eq]
              simpa [txtV] using this
            have HRt := Lib.hid hrt
            clear hrt hTT
            go_wp2_with fail
            have hs2 := alloc_below (o := .cells #[.int .i64 st, .int .i64 al, .int .i64 (-1)] 23) (Below.refl wr.heap.size wr)
            have q0 : (wr.alloc (.cells #[.int .i64 st, .int .i64 al, .int .i64 (-1)] 23)).cell? ⟨wr.heap.size, 0, none⟩ = some (.int .i64 st) := by go_simp
            have q1 : (wr.alloc (.cells #[.int .i64 st, .int .i64 al, .int .i64 (-1)] 23)).cell? ⟨wr.heap.size, 1, none⟩ = some (.int .i64 al) := by go_simp
            have q2 : (wr.alloc (.cells #[.int .i64 st, .int .i64 al, .int .i64 (-1)] 23)).cell? ⟨wr.heap.size, 2, none⟩ = some (.int .i64 (-1)) := by go_simp
            have HU := Lib.hid (hU.later hs2)
            clear hs2 hU
            generalize wr.alloc (.cells #[.int .i64 st, .int .i64 al, .int .i64 (-1)] 23) = w3 at *
            refine (refText_any _ _ _ _).mono ?_
            rintro e w4 ⟨rfl, hb⟩
            replace q0 := cell_later hb q0
            replace q1 := cell_later hb q1
            replace q2 := cell_later hb q2
            replace HU := Lib.hid (HU.out.later hb)
            clear hb
            rw [HRt.out, HM.out]
            simp only [errP, if_true]
            go_wp2
            exact ⟨⟨al + 1, by go_num, by omega, by omega, HU.out⟩, by simp [intOf]; omega⟩
        · obtain rfl : al = ax := by omega
          have hMN : (TX == s.toList) = true := by rw [ByteArray.toList_eq, HTX.out]; simp
          go_wp2_with fail
          have hs2 := alloc_below (o := .cells #[.int .i64 st, .int .i64 al, .int .i64 (-1)] 23) (Below.refl wr.heap.size wr)
          have q0 : (wr.alloc (.cells #[.int .i64 st, .int .i64 al, .int .i64 (-1)] 23)).cell? ⟨wr.heap.size, 0, none⟩ = some (.int .i64 st) := by go_simp
          have q1 : (wr.alloc (.cells #[.int .i64 st, .int .i64 al, .int .i64 (-1)] 23)).cell? ⟨wr.heap.size, 1, none⟩ = some (.int .i64 al) := by go_simp
          have q2 : (wr.alloc (.cells #[.int .i64 st, .int .i64 al, .int .i64 (-1)] 23)).cell? ⟨wr.heap.size, 2, none⟩ = some (.int .i64 (-1)) := by go_simp
          have HU := Lib.hid (hU.later hs2)
          clear hs2 hU
          generalize wr.alloc (.cells #[.int .i64 st, .int .i64 al, .int .i64 (-1)] 23) = w3 at *
          refine (refText_any _ _ _ _).mono ?_
          rintro e w4 ⟨rfl, hb⟩
          replace q0 := cell_later hb q0
          replace q1 := cell_later hb q1
          replace q2 := cell_later hb q2
          replace HU := Lib.hid (HU.out.later hb)
          clear hb
          rw [HRX.out, HTX2.out]
          simp only [errP, if_true]
          obtain ⟨r0, r1, r2, f0, f1, f2, hB⟩ := HU.out
          obtain ⟨m0, m1, m2⟩ := put3_of (x := .int .i64 st) (y := .int .i64 al) (z := .int .i64 (-1)) r0 r1 r2
          go_wp2
          exact bodyPost_ret (v := pv st al (-1) 0) (by simp [results, Tryd.results30, go_sem, m0, m1, m2]) rfl ⟨rfl, put3_below hB (by omega)⟩

set_option maxRecDepth 100000 in
set_option maxHeartbeats 4000000 in
theorem refRead_none_d (s : ByteArray) (w : World) (k : Nat) (h0 : 2 ≤ k + 1) (h5 : k + 1 ≤ 5) (hk : s.size = k + 1) (hk2 : k < s.size) (oc : Int) (heq : ((s.extract (k - 1) (k + 1)).toList == [45, 49]) = false) (hoc : wrap64 (wrap64 ((s[k]'hk2).toNat : Int) - 48) = oc) (HMiss : Hid (∀ st al : Int, Pit.right st al oc = true → Pit.txt st al oc ≠ s.data.toList)) :
    Calls Tryd.prog 30 #[.string s] w fun e w' => e = .returned (pv 0 0 0 21) ∧ Below w.heap.size w w' := by
  go_enter Tryd.func30, Tryd.ntmps30
  have hU := RdW.start w 23
  go_wp2_with fail
  generalize w.alloc (.cells #[.int .i64 0, .int .i64 0, .int .i64 0] 23) = w1 at *
  go_loopw [5] (fun i wr => RdRel w 0 (7) i wr) (fun i _ => (7 - intOf i).toNat)
  case atStart => exact ⟨0, rfl, by omega, by omega, hU⟩
  case round =>
    clear hU
    obtain ⟨st, rfl, t0, t1, hU⟩ := hrel
    by_cases hst : st < 7
    · go_wp2_with fail
      go_loopw [6] (fun i wr => RdRel w (-2) (3) i wr) (fun i _ => (3 - intOf i).toNat)
      case atStart => exact ⟨-2, rfl, by omega, by omega, hU⟩
      case round =>
        clear hU
        obtain ⟨al, rfl, a0, a1, hU⟩ := hrel
        by_cases ha : al ≤ 2
        · cases hrt : Pit.right st al oc with
          | false =>
            have HRt := Lib.hid hrt
            clear hrt
            go_wp2_with fail
            have hs2 := alloc_below (o := .cells #[.int .i64 st, .int .i64 al, .int .i64 oc] 23) (Below.refl wr.heap.size wr)
            have q0 : (wr.alloc (.cells #[.int .i64 st, .int .i64 al, .int .i64 oc] 23)).cell? ⟨wr.heap.size, 0, none⟩ = some (.int .i64 st) := by go_simp
            have q1 : (wr.alloc (.cells #[.int .i64 st, .int .i64 al, .int .i64 oc] 23)).cell? ⟨wr.heap.size, 1, none⟩ = some (.int .i64 al) := by go_simp
            have q2 : (wr.alloc (.cells #[.int .i64 st, .int .i64 al, .int .i64 oc] 23)).cell? ⟨wr.heap.size, 2, none⟩ = some (.int .i64 oc) := by go_simp
            have HU := Lib.hid (hU.later hs2)
            clear hs2 hU
            generalize wr.alloc (.cells #[.int .i64 st, .int .i64 al, .int .i64 oc] 23) = w3 at *
            refine (refText_any _ _ _ _).mono ?_
            rintro e w4 ⟨rfl, hb⟩
            replace q0 := cell_later hb q0
            replace q1 := cell_later hb q1
            replace q2 := cell_later hb q2
            replace HU := Lib.hid (HU.out.later hb)
            clear hb
            rw [HRt.out]
            simp only [txtV, errP, if_false, Bool.false_eq_true]
            go_wp2
            exact ⟨⟨al + 1, by go_num, by omega, by omega, HU.out⟩, by simp [intOf]; omega⟩
          | true =>
            obtain ⟨TT, hTT⟩ : ∃ TT, txtV true st al oc = TT := ⟨_, rfl⟩
            have HM := Lib.hid hTT
            have hMN : (TT == s.toList) = false := by
              have := HMiss.out st al  hrt
              rw [← hTT, ByteArray.toList_eq]
              simpa [txtV] using this
            have HRt := Lib.hid hrt
            clear hrt hTT
            go_wp2_with fail
            have hs2 := alloc_below (o := .cells #[.int .i64 st, .int .i64 al, .int .i64 oc] 23) (Below.refl wr.heap.size wr)
            have q0 : (wr.alloc (.cells #[.int .i64 st, .int .i64 al, .int .i64 oc] 23)).cell? ⟨wr.heap.size, 0, none⟩ = some (.int .i64 st) := by go_simp
            have q1 : (wr.alloc (.cells #[.int .i64 st, .int .i64 al, .int .i64 oc] 23)).cell? ⟨wr.heap.size, 1, none⟩ = some (.int .i64 al) := by go_simp
            have q2 : (wr.alloc (.cells #[.int .i64 st, .int .i64 al, .int .i64 oc] 23)).cell? ⟨wr.heap.size, 2, none⟩ = some (.int .i64 oc) := by go_simp
            have HU := Lib.hid (hU.later hs2)
            clear hs2 hU
            generalize wr.alloc (.cells #[.int .i64 st, .int .i64 al, .int .i64 oc] 23) = w3 at *
            refine (refText_any _ _ _ _).mono ?_
            rintro e w4 ⟨rfl, hb⟩
            replace q0 := cell_later hb q0
            replace q1 := cell_later hb q1
            replace q2 := cell_later hb q2
            replace HU := Lib.hid (HU.out.later hb)
            clear hb
            rw [HRt.out, HM.out]
            simp only [errP, if_true]
            go_wp2
            exact ⟨⟨al + 1, by go_num, by omega, by omega, HU.out⟩, by simp [intOf]; omega⟩
        · obtain rfl : al = 3 := by omega
          have HU := Lib.hid hU
          clear hU
          go_wp2
          exact ⟨⟨st + 1, by go_num, by omega, by omega, HU.out⟩, by simp [intOf]; omega⟩
    · obtain rfl : st = 7 := by omega
      obtain ⟨r0, r1, r2, f0, f1, f2, hB⟩ := hU
      obtain ⟨m0, m1, m2⟩ := put3_of (x := .int .i64 0) (y := .int .i64 0) (z := .int .i64 0) r0 r1 r2
      go_wp2
      exact bodyPost_ret (v := pv 0 0 0 21) (by simp [results, Tryd.results30, go_sem, m0, m1, m2]) rfl ⟨rfl, put3_below hB (by omega)⟩

set_option maxRecDepth 100000 in
set_option maxHeartbeats 4000000 in
theorem refRead_some_d (s : ByteArray) (w : World) (k : Nat) (h0 : 2 ≤ k + 1) (h5 : k + 1 ≤ 5) (hk : s.size = k + 1) (hk2 : k < s.size) (oc : Int) (heq : ((s.extract (k - 1) (k + 1)).toList == [45, 49]) = false) (hoc : wrap64 (wrap64 ((s[k]'hk2).toNat : Int) - 48) = oc) (sx ax : Int) (x0 : 0 ≤ sx) (x6 : sx ≤ 6) (y0 : -2 ≤ ax) (y2 : ax ≤ 2) (TX : List UInt8) (HTX : Hid (TX = s.data.toList)) (HTX2 : Hid (txtV true sx ax oc = TX)) (HRX : Hid (Pit.right sx ax oc = true)) (HMiss : Hid (∀ st al : Int, (st ≠ sx ∨ al ≠ ax) → Pit.right st al oc = true → Pit.txt st al oc ≠ s.data.toList)) :
    Calls Tryd.prog 30 #[.string s] w fun e w' => e = .returned (pv sx ax oc 0) ∧ Below w.heap.size w w' := by
  go_enter Tryd.func30, Tryd.ntmps30
  have hU := RdW.start w 23
  go_wp2_with fail
  generalize w.alloc (.cells #[.int .i64 0, .int .i64 0, .int .i64 0] 23) = w1 at *
  go_loopw [5] (fun i wr => RdRel w 0 (sx) i wr) (fun i _ => (7 - intOf i).toNat)
  case atStart => exact ⟨0, rfl, by omega, by omega, hU⟩
  case round =>
    clear hU
    obtain ⟨st, rfl, t0, t1, hU⟩ := hrel
    by_cases hst : st < sx
    · go_wp2_with fail
      go_loopw [6] (fun i wr => RdRel w (-2) (3) i wr) (fun i _ => (3 - intOf i).toNat)
      case atStart => exact ⟨-2, rfl, by omega, by omega, hU⟩
      case round =>
        clear hU
        obtain ⟨al, rfl, a0, a1, hU⟩ := hrel
        by_cases ha : al ≤ 2
        · cases hrt : Pit.right st al oc with
          | false =>
            have HRt := Lib.hid hrt
            clear hrt
            go_wp2_with fail
            have hs2 := alloc_below (o := .cells #[.int .i64 st, .int .i64 al, .int .i64 oc] 23) (Below.refl wr.heap.size wr)
            have q0 : (wr.alloc (.cells #[.int .i64 st, .int .i64 al, .int .i64 oc] 23)).cell? ⟨wr.heap.size, 0, none⟩ = some (.int .i64 st) := by go_simp
            have q1 : (wr.alloc (.cells #[.int .i64 st, .int .i64 al, .int .i64 oc] 23)).cell? ⟨wr.heap.size, 1, none⟩ = some (.int .i64 al) := by go_simp
            have q2 : (wr.alloc (.cells #[.int .i64 st, .int .i64 al, .int .i64 oc] 23)).cell? ⟨wr.heap.size, 2, none⟩ = some (.int .i64 oc) := by go_simp
            have HU := Lib.hid (hU.later hs2)
            clear hs2 hU
            generalize wr.alloc (.cells #[.int .i64 st, .int .i64 al, .int .i64 oc] 23) = w3 at *
            refine (refText_any _ _ _ _).mono ?_
            rintro e w4 ⟨rfl, hb⟩
            replace q0 := cell_later hb q0
            replace q1 := cell_later hb q1
            replace q2 := cell_later hb q2
            replace HU := Lib.hid (HU.out.later hb)
            clear hb
            rw [HRt.out]
            simp only [txtV, errP, if_false, Bool.false_eq_true]
            go_wp2
            exact ⟨⟨al + 1, by go_num, by omega, by omega, HU.out⟩, by simp [intOf]; omega⟩
          | true =>
            obtain ⟨TT, hTT⟩ : ∃ TT, txtV true st al oc = TT := ⟨_, rfl⟩
            have HM := Lib.hid hTT
            have hMN : (TT == s.toList) = false := by
              have := HMiss.out st al (Or.inl (by omega)) hrt
              rw [← hTT, ByteArray.toList_eq]
              simpa [txtV] using this
            have HRt := Lib.hid hrt
            clear hrt hTT
            go_wp2_with fail
            have hs2 := alloc_below (o := .cells #[.int .i64 st, .int .i64 al, .int .i64 oc] 23) (Below.refl wr.heap.size wr)
            have q0 : (wr.alloc (.cells #[.int .i64 st, .int .i64 al, .int .i64 oc] 23)).cell? ⟨wr.heap.size, 0, none⟩ = some (.int .i64 st) := by go_simp
            have q1 : (wr.alloc (.cells #[.int .i64 st, .int .i64 al, .int .i64 oc] 23)).cell? ⟨wr.heap.size, 1, none⟩ = some (.int .i64 al) := by go_simp
            have q2 : (wr.alloc (.cells #[.int .i64 st, .int .i64 al, .int .i64 oc] 23)).cell? ⟨wr.heap.size, 2, none⟩ = some (.int .i64 oc) := by go_simp
            have HU := Lib.hid (hU.later hs2)
            clear hs2 hU
            generalize wr.alloc (.cells #[.int .i64 st, .int .i64 al, .int .i64 oc] 23) = w3 at *
            refine (refText_any _ _ _ _).mono ?_
            rintro e w4 ⟨rfl, hb⟩
            replace q0 := cell_later hb q0
            replace q1 := cell_later hb q1
            replace q2 := cell_later hb q2
            replace HU := Lib.hid (HU.out.later hb)
            clear hb
            rw [HRt.out, HM.out]
            simp only [errP, if_true]
            go_wp2
            exact ⟨⟨al + 1, by go_num, by omega, by omega, HU.out⟩, by simp [intOf]; omega⟩
        · obtain rfl : al = 3 := by omega
          have HU := Lib.hid hU
          clear hU
          go_wp2
          exact ⟨⟨st + 1, by go_num, by omega, by omega, HU.out⟩, by simp [intOf]; omega⟩
    · obtain rfl : st = sx := by omega
      go_wp2_with fail
      go_loopw [6] (fun i wr => RdRel w (-2) (ax) i wr) (fun i _ => (3 - intOf i).toNat)
      case atStart => exact ⟨-2, rfl, by omega, by omega, hU⟩
      case round =>
        clear hU
        obtain ⟨al, rfl, a0, a1, hU⟩ := hrel
        by_cases ha : al < ax
        · cases hrt : Pit.right st al oc with
          | false =>
            have HRt := Lib.hid hrt
            clear hrt
            go_wp2_with fail
            have hs2 := alloc_below (o := .cells #[.int .i64 st, .int .i64 al, .int .i64 oc] 23) (Below.refl wr.heap.size wr)
            have q0 : (wr.alloc (.cells #[.int .i64 st, .int .i64 al, .int .i64 oc] 23)).cell? ⟨wr.heap.size, 0, none⟩ = some (.int .i64 st) := by go_simp
            have q1 : (wr.alloc (.cells #[.int .i64 st, .int .i64 al, .int .i64 oc] 23)).cell? ⟨wr.heap.size, 1, none⟩ = some (.int .i64 al) := by go_simp
            have q2 : (wr.alloc (.cells #[.int .i64 st, .int .i64 al, .int .i64 oc] 23)).cell? ⟨wr.heap.size, 2, none⟩ = some (.int .i64 oc) := by go_simp
            have HU := Lib.hid (hU.later hs2)
            clear hs2 hU
            generalize wr.alloc (.cells #[.int .i64 st, .int .i64 al, .int .i64 oc] 23) = w3 at *
            refine (refText_any _ _ _ _).mono ?_
            rintro e w4 ⟨rfl, hb⟩
            replace q0 := cell_later hb q0
            replace q1 := cell_later hb q1
            replace q2 := cell_later hb q2
            replace HU := Lib.hid (HU.out.later hb)
            clear hb
            rw [HRt.out]
            simp only [txtV, errP, if_false, Bool.false_eq_true]
            go_wp2
            exact ⟨⟨al + 1, by go_num, by omega, by omega, HU.out⟩, by simp [intOf]; omega⟩
          | true =>
            obtain ⟨TT, hTT⟩ : ∃ TT, txtV true st al oc = TT := ⟨_, rfl⟩
            have HM := Lib.hid hTT
            have hMN : (TT == s.toList) = false := by
              have := HMiss.out st al (Or.inr (by omega)) hrt
              rw [← hTT, ByteArray.toList_eq]
              simpa [txtV] using this
            have HRt := Lib.hid hrt
            clear hrt hTT
            go_wp2_with fail
            have hs2 := alloc_below (o := .cells #[.int .i64 st, .int .i64 al, .int .i64 oc] 23) (Below.refl wr.heap.size wr)
            have q0 : (wr.alloc (.cells #[.int .i64 st, .int .i64 al, .int .i64 oc] 23)).cell? ⟨wr.heap.size, 0, none⟩ = some (.int .i64 st) := by go_simp
            have q1 : (wr.alloc (.cells #[.int .i64 st, .int .i64 al, .int .i64 oc] 23)).cell? ⟨wr.heap.size, 1, none⟩ = some (.int .i64 al) := by go_simp
            have q2 : (wr.alloc (.cells #[.int .i64 st, .int .i64 al, .int .i64 oc] 23)).cell? ⟨wr.heap.size, 2, none⟩ = some (.int .i64 oc) := by go_simp
            have HU := Lib.hid (hU.later hs2)
            clear hs2 hU
            generalize wr.alloc (.cells #[.int .i64 st, .int .i64 al, .int .i64 oc] 23) = w3 at *
            refine (refText_any _ _ _ _).mono ?_
            rintro e w4 ⟨rfl, hb⟩
            replace q0 := cell_later hb q0
            replace q1 := cell_later hb q1
            replace q2 := cell_later hb q2
            replace HU := Lib.hid (HU.out.later hb)
            clear hb
            rw [HRt.out, HM.out]
            simp only [errP, if_true]
            go_wp2
            exact ⟨⟨al + 1, by go_num, by omega, by omega, HU.out⟩, by simp [intOf]; omega⟩
        · obtain rfl : al = ax := by omega
          have hMN : (TX == s.toList) = true := by rw [ByteArray.toList_eq, HTX.out]; simp
          go_wp2_with fail
          have hs2 := alloc_below (o := .cells #[.int .i64 st, .int .i64 al, .int .i64 oc] 23) (Below.refl wr.heap.size wr)
          have q0 : (wr.alloc (.cells #[.int .i64 st, .int .i64 al, .int .i64 oc] 23)).cell? ⟨wr.heap.size, 0, none⟩ = some (.int .i64 st) := by go_simp
          have q1 : (wr.alloc (.cells #[.int .i64 st, .int .i64 al, .int .i64 oc] 23)).cell? ⟨wr.heap.size, 1, none⟩ = some (.int .i64 al) := by go_simp
          have q2 : (wr.alloc (.cells #[.int .i64 st, .int .i64 al, .int .i64 oc] 23)).cell? ⟨wr.heap.size, 2, none⟩ = some (.int .i64 oc) := by go_simp
          have HU := Lib.hid (hU.later hs2)
          clear hs2 hU
          generalize wr.alloc (.cells #[.int .i64 st, .int .i64 al, .int .i64 oc] 23) = w3 at *
          refine (refText_any _ _ _ _).mono ?_
          rintro e w4 ⟨rfl, hb⟩
          replace q0 := cell_later hb q0
          replace q1 := cell_later hb q1
          replace q2 := cell_later hb q2
          replace HU := Lib.hid (HU.out.later hb)
          clear hb
          rw [HRX.out, HTX2.out]
          simp only [errP, if_true]
          obtain ⟨r0, r1, r2, f0, f1, f2, hB⟩ := HU.out
          obtain ⟨m0, m1, m2⟩ := put3_of (x := .int .i64 st) (y := .int .i64 al) (z := .int .i64 oc) r0 r1 r2
          go_wp2
          exact bodyPost_ret (v := pv st al oc 0) (by simp [results, Tryd.results30, go_sem, m0, m1, m2]) rfl ⟨rfl, put3_below hB (by omega)⟩

/-- The octave that the last bytes tell. -/
def octL (l : List UInt8) : Int := if l.drop (l.length - 2) == [45, 49] then -1 else (l.getD (l.length - 1) 0).toNat - 48
theorem oct_all : ∀ (s : Fin 7) (a : Fin 5) (o : Fin 11), decide (octL (Pit.txt (s.val : Int) ((a.val : Int) - 2) ((o.val : Int) - 1)) = (o.val : Int) - 1) = true := by decide +kernel
theorem oct_at {s a o : Int} (h : Pit.IsRight s a o) : octL (Pit.txt s a o) = o := by
  have := Pit.box (P := fun s a o => decide (octL (Pit.txt s a o) = o) = true) oct_all h
  simpa using this
theorem refRead_any (s : ByteArray) (w : World) :
    Calls Tryd.prog 30 #[.string s] w fun e w' => e = .returned (rdV (Pit.rd s.data.toList)) ∧ Below w.heap.size w w' := by
  have hz : s.data.toList.length = s.size := rfl
  have far : (s.size < 2 ∨ 5 < s.size) → Pit.rd s.data.toList = none := fun hf => by
    cases hr : Pit.rd s.data.toList with
    | none => rfl
    | some q =>
      obtain ⟨x, y, z⟩ := q
      obtain ⟨r1, r2⟩ := Pit.rd_sound hr
      have := Pit.txt_len ((Pit.right_iff _ _ _).1 r1)
      rw [r2] at this
      omega
  by_cases c1 : (s.size : Int) < 2
  · rw [far (by omega)]; exact refRead_short s w c1
  by_cases c2 : 5 < (s.size : Int)
  · rw [far (by omega)]; exact refRead_long s w c1 c2
  obtain ⟨k, hk⟩ : ∃ k, s.size = k + 1 := ⟨s.size - 1, by omega⟩
  have hk2 : k < s.size := by omega
  have hb : (s[k]'hk2).toNat < 256 := (s[k]'hk2).toNat_lt
  have hw : wrap64 (wrap64 ((s[k]'hk2).toNat : Int) - 48) = ((s[k]'hk2).toNat : Int) - 48 := by unfold wrap64; omega
  have hge : (s.data.toList.getD k 0) = s[k]'hk2 := by
    rw [List.getD_eq_getElem?_getD, List.getElem?_eq_getElem (by omega)]; rfl
  have hex : (s.extract (k - 1) (k + 1)).toList = s.data.toList.drop (k + 1 - 2) := by
    rw [ByteArray.toList_eq, show k + 1 = s.size from hk.symm, extract_drop, hk, show k + 1 - 2 = k - 1 by omega]
  have hoct : octL s.data.toList = if (s.extract (k - 1) (k + 1)).toList == [45, 49] then -1 else ((s[k]'hk2).toNat : Int) - 48 := by
    unfold octL
    rw [hz, hk, hex, show k + 1 - 1 = k by omega, hge]
  have uniq : ∀ x y z st al : Int, Pit.rd s.data.toList = some (x, y, z) → Pit.right st al z = true → Pit.txt st al z = s.data.toList → st = x ∧ al = y := fun x y z st al hr h1 h2 => by
    have := Pit.rd_txt ((Pit.right_iff _ _ _).1 h1)
    rw [h2, hr] at this
    simp only [Option.some.injEq, Prod.mk.injEq] at this
    exact ⟨this.1.symm, this.2.1.symm⟩
  have none' : Pit.rd s.data.toList = none → ∀ z st al : Int, Pit.right st al z = true → Pit.txt st al z ≠ s.data.toList := fun hr z st al h1 h2 => by
    have := Pit.rd_txt ((Pit.right_iff _ _ _).1 h1)
    rw [h2, hr] at this
    cases this
  cases heq : ((s.extract (k - 1) (k + 1)).toList == [45, 49]) with
  | true =>
    rw [heq, if_pos rfl] at hoct
    cases hr : Pit.rd s.data.toList with
    | none => exact refRead_none_m s w k (by omega) (by omega) hk heq (Lib.hid (fun st al => none' hr _ st al))
    | some q =>
      obtain ⟨x, y, z⟩ := q
      obtain ⟨r1, r2⟩ := Pit.rd_sound hr
      have hR := (Pit.right_iff _ _ _).1 r1
      have ho := oct_at hR
      rw [r2, hoct] at ho
      subst ho
      exact refRead_some_m s w k (by omega) (by omega) hk heq x y hR.s0 hR.s6 hR.a0 hR.a2 _ (Lib.hid rfl) (Lib.hid r2) (Lib.hid r1) (Lib.hid (fun st al hne h1 h2 => by
        obtain ⟨rfl, rfl⟩ := uniq _ _ _ st al hr h1 h2
        rcases hne with h | h <;> exact h rfl))
  | false =>
    rw [heq, if_neg (by decide)] at hoct
    cases hr : Pit.rd s.data.toList with
    | none => exact refRead_none_d s w k (by omega) (by omega) hk hk2 _ heq hw (Lib.hid (fun st al => none' hr _ st al))
    | some q =>
      obtain ⟨x, y, z⟩ := q
      obtain ⟨r1, r2⟩ := Pit.rd_sound hr
      have hR := (Pit.right_iff _ _ _).1 r1
      have ho := oct_at hR
      rw [r2, hoct] at ho
      rw [ho] at hw
      exact refRead_some_d s w k (by omega) (by omega) hk hk2 z heq hw x y hR.s0 hR.s6 hR.a0 hR.a2 _ (Lib.hid rfl) (Lib.hid r2) (Lib.hid r1) (Lib.hid (fun st al hne h1 h2 => by
        obtain ⟨rfl, rfl⟩ := uniq _ _ _ st al hr h1 h2
        rcases hne with h | h <;> exact h rfl))
end Go.Proofs.YtoopchnncjfjoaaDoor
