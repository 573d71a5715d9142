/-
  The contracts of the reference's Scale and Same.
-/
import Derived.Test.YtahcbgngdpjhkaaDoorKeyM
import Derived.LoopN
import Derived.Test.YtahcbgngdpjhkaaDoorKeyL
namespace Go.Proofs.YtahcbgngdpjhkaaDoor
open Go.RowKit

def RScRel (f : Int) (m : Bool) (w : World) (P : Nat) (l x y i : Value) (wr : World) : Prop :=
  ∃ j : Nat, j ≤ 7 ∧ i = .int .i64 j ∧ x = .int .i64 (Key.scS f m j) ∧ y = .int .i64 (Key.scO f m j) ∧ wr.ownsRow P 42 3 l j (rowOf (Key.upto (scP f m) j)) ∧
    wr.cell? ⟨w.heap.size, 0, none⟩ = some (.int .i64 f) ∧ wr.cell? ⟨w.heap.size, 1, none⟩ = some (.bool m) ∧ Below w.heap.size w wr ∧ P ≤ wr.heap.size

set_option maxRecDepth 100000 in
set_option maxHeartbeats 4000000 in
theorem refScale_yes (f : Int) (m : Bool) (w : World) (h0 : -7 ≤ f) (h7 : f ≤ 7) :
    Calls Tryd.prog 25 #[ky f m] w fun e w' => (∃ v, e = .returned (.tuple #[v, .int .i64 0]) ∧ Row w' v (scP f m) 7) ∧ Below w.heap.size w w' := by
  obtain ⟨i0, hi, hz0, hz1, hz2⟩ := info_parts infoP
  have HI := Lib.hid (And.intro hi (And.intro hz0 (And.intro hz1 hz2)))
  clear hi hz0 hz1 hz2
  have hB0 : Below w.heap.size w w := Below.refl _ _
  go_enter Tryd.func25, Tryd.ntmps25
  go_wp2_with fail
  refine (krefRight_yes m _ (Key.okF_true h0 h7)).mono ?_
  rintro e w1 ⟨rfl, hb1⟩
  have hs1 : Below w.heap.size w w1 := Below.trans (by repeat (first | exact Below.refl _ _ | refine Below.alloc ?_ (by simp <;> omega) _)) (hb1.mono (by simp <;> omega))
  have c_k_0 : w1.cell? ⟨w.heap.size, 0, none⟩ = some (.int .i64 f) := (hb1.cell (by simp <;> omega)).trans (by go_simp)
  have c_k_1 : w1.cell? ⟨w.heap.size, 1, none⟩ = some (.bool m) := (hb1.cell (by simp <;> omega)).trans (by go_simp)
  have z_k := World.block_lt_of_cell? _ _ c_k_0
  have hB1 := below_two hB0 hs1
  clear hB0 hs1 hb1
  go_wp2_with fail
  refine (refTonic_any f m _ h0 h7).mono ?_
  rintro e w2 ⟨rfl, hb2⟩
  have hs2 := hb2
  replace c_k_0 := cell_later hs2 c_k_0
  replace c_k_1 := cell_later hs2 c_k_1
  clear z_k
  have z_k := World.block_lt_of_cell? _ _ c_k_0
  have hB2 := below_two hB1 hs2
  clear hB1 hs2
  go_wp2_with fail
  refine (refStep_any (Key.tp f m) _ (by have := Key.tp_bounds (m := m) h0 h7; omega) (by have := Key.tp_bounds (m := m) h0 h7; omega)).mono ?_
  rintro e wx ⟨rfl, rfl⟩
  have e1 : Key.st (Key.tp f m) = Key.scS f m (0 : Nat) := by unfold Key.scS; have := Key.st_bounds (Key.tp f m); omega
  rw [e1]
  clear e1
  have HO : Hid (4 = Key.scO f m (0 : Nat)) := Lib.hid (by unfold Key.scO; have := Key.st_bounds (Key.tp f m); omega)
  go_wp2
  go_loopw [4, 5, 6, 7] (fun l x y i wr => RScRel f m w w2.heap.size l x y i wr) (fun _ _ _ i _ => (7 - intOf i).toNat)
  case atStart => exact ⟨0, by omega, rfl, rfl, by rw [← HO.out], World.ownsRow_nil _ _ _ _, c_k_0, c_k_1, hB2, Nat.le_refl _⟩
  case round =>
    obtain ⟨j, hj, rfl, rfl, rfl, hown, hk0, hk1, hB, hP⟩ := hrel
    have hzk : w.heap.size < w2.heap.size := z_k
    by_cases hj7 : j < 7
    · have hsb := scS_bounds f m j
      have hob := scO_bounds f m (j := j) (by omega) (by omega)
      have HSG : Hid (scP f m j = (Key.scS f m j, Key.sg f (Key.scS f m j), Key.scO f m j)) := Lib.hid rfl
      have HNX := Lib.hid (sc_next f m j)
      have HJ := Lib.hid hj7
      generalize Key.scS f m (j : Int) = s at *
      generalize Key.scO f m (j : Int) = o at *
      go_wp2_with fail
      refine (refAlter_yes f m s _ h0 h7 hsb.1 hsb.2).mono ?_
      rintro e w4 ⟨rfl, hb⟩
      replace hk0 := cell_later hb hk0
      replace hk1 := cell_later hb hk1
      replace hown := own_later hown hb
      replace hB := below_two hB hb
      replace hP := Nat.le_trans hP hb.size
      clear hb
      generalize Key.sg f s = g at *
      have HOW := Lib.hid hown
      have HK4 := Lib.hid (And.intro hk0 hk1)
      have HB4 := Lib.hid hB
      clear hown hB hk0 hk1
      go_wp2_with (first
        | (at_builtin; refine wpList_append_own _ rfl _ _ 32 rfl w2.heap.size 42 i0 (.agg #[.int .i64 0, .int .i64 0, .int .i64 0]) 3 24 Tryd.underlying32 HI.out.1 HI.out.2.1 HI.out.2.2.1 HI.out.2.2.2 rfl (by decide) _ _ _ rfl (HOW.out.alloc _) ⟨w4.heap.size, 0, none⟩ 1 1 [.int .i64 s, .int .i64 g, .int .i64 o] rfl rfl ?c1 ?c2 ?c3 ?c4 ?c5 ?_)
        | fail)
      case c1 => exact cells3_new _ _ _ _ _ rfl
      case c2 => intro u hu; simp at hu; rcases hu with rfl | rfl | rfl <;> rfl
      case c3 => unfold maxLen; omega
      case c4 => omega
      case c5 => simp; omega
      · intro v' w5 hown5 hgrow _
        have hb5 : Below w2.heap.size (w4.alloc (.cells #[.int .i64 s, .int .i64 g, .int .i64 o] 42)) w5 := (Below.refl _ _).grown hgrow (by simp; omega) (fun k hk => (HOW.out.lt k hk).1)
        have k5a := (hb5.cell (p := ⟨w.heap.size, 0, none⟩) hzk).trans (alloc_cell HK4.out.1)
        have k5b := (hb5.cell (p := ⟨w.heap.size, 1, none⟩) hzk).trans (alloc_cell HK4.out.2)
        have hB5 : Below w.heap.size w w5 := (alloc_below HB4.out).trans (hb5.mono (by omega))
        have hP5 : w2.heap.size ≤ w5.heap.size := by have := hb5.size; simp at this; omega
        have HOWN : Hid (w5.ownsRow w2.heap.size 42 3 v' (j + 1) (rowOf (Key.upto (scP f m) (j + 1)))) := Lib.hid (by rw [Key.upto_succ, rowOf_append, HSG.out]; exact hown5)
        have HK5 := Lib.hid (And.intro k5a k5b)
        have HB5 := Lib.hid hB5
        have HP5 := Lib.hid hP5
        clear hb5 hown5 hgrow hB5 k5a k5b HOW HB4 HK4 hP5
        by_cases hs6 : s = 6
        · have HN : Hid (Key.scS f m (j + 1 : Nat) = 0 ∧ Key.scO f m (j + 1 : Nat) = o + 1) := Lib.hid (by rcases HNX.out with ⟨h1, h2, h3⟩ | ⟨h1, h2, h3⟩; omega; exact ⟨h2, h3⟩)
          subst hs6
          go_wp2
          go_roundw
          case rel => exact ⟨j + 1, by have := HJ.out; omega, by go_num, by rw [HN.out.1], by rw [HN.out.2], HOWN.out, HK5.out.1, HK5.out.2, HB5.out, HP5.out⟩
          case measure => simp [intOf]; have := HJ.out; omega
        · have HN : Hid (Key.scS f m (j + 1 : Nat) = s + 1 ∧ Key.scO f m (j + 1 : Nat) = o) := Lib.hid (by rcases HNX.out with ⟨h1, h2, h3⟩ | ⟨h1, h2, h3⟩; exact ⟨h2, h3⟩; omega)
          have hne : ¬ (s + 1 = 7) := by omega
          go_wp2
          go_roundw
          case rel => exact ⟨j + 1, by have := HJ.out; omega, by go_num, by rw [HN.out.1], by rw [HN.out.2], HOWN.out, HK5.out.1, HK5.out.2, HB5.out, HP5.out⟩
          case measure => simp [intOf]; have := HJ.out; omega
    · obtain rfl : j = 7 := by omega
      have HOW := Lib.hid hown
      clear hown
      go_wp2
      go_ret2
      exact ⟨⟨_, rfl, row_of (by decide) HOW.out⟩, hB⟩

set_option maxRecDepth 100000 in
set_option maxHeartbeats 4000000 in
theorem refScale_no (f : Int) (m : Bool) (w : World) (h : Key.okF f = false) :
    Calls Tryd.prog 25 #[ky f m] w fun e w' => e = .returned (.tuple #[.slice none 0 0, .int .i64 30]) ∧ Below w.heap.size w w' := by
  have hB0 : Below w.heap.size w w := Below.refl _ _
  go_enter Tryd.func25, Tryd.ntmps25
  go_wp2_with fail
  refine (krefRight_no m _ h).mono ?_
  rintro e w1 ⟨rfl, hb1⟩
  have hs1 : Below w.heap.size w w1 := Below.trans (by repeat (first | exact Below.refl _ _ | refine Below.alloc ?_ (by simp <;> omega) _)) (hb1.mono (by simp <;> omega))
  have c_k_0 : w1.cell? ⟨w.heap.size, 0, none⟩ = some (.int .i64 f) := (hb1.cell (by simp <;> omega)).trans (by go_simp)
  have c_k_1 : w1.cell? ⟨w.heap.size, 1, none⟩ = some (.bool m) := (hb1.cell (by simp <;> omega)).trans (by go_simp)
  have z_k := World.block_lt_of_cell? _ _ c_k_0
  have hB1 := below_two hB0 hs1
  clear hB0 hs1 hb1
  go_wp2
  go_ret2
  exact ⟨rfl, hB1⟩

theorem refScale_any (f : Int) (m : Bool) (w : World) :
    Calls Tryd.prog 25 #[ky f m] w fun e w' => (∃ v, e = .returned (.tuple #[v, .int .i64 (Key.eK f)]) ∧ ScV f m w' v) ∧ Below w.heap.size w w' := by
  unfold Key.eK ScV
  cases hf : Key.okF f
  · refine (refScale_no f m w hf).mono ?_
    rintro e w' ⟨rfl, hb⟩
    exact ⟨⟨_, rfl, rfl⟩, hb⟩
  · obtain ⟨h0, h7⟩ := (Key.okF_iff f).1 hf
    exact refScale_yes f m w h0 h7

set_option maxRecDepth 100000 in
set_option maxHeartbeats 4000000 in
theorem refSame_nil (w : World) :
    Calls Tryd.prog 26 #[.slice none 0 0, .slice none 0 0] w fun e w' => e = .returned (.bool true) ∧ Below w.heap.size w w' := by
  have hB0 : Below w.heap.size w w := Below.refl _ _
  go_enter Tryd.func26, Tryd.ntmps26
  go_wp2
  refine wp_loop_rounds 1 ?_
  rw [rounds_succ]
  go_wp2
  go_ret
  exact ⟨rfl, hB0⟩

set_option maxRecDepth 100000 in
set_option maxHeartbeats 4000000 in
theorem refSame_rows (w : World) (f : Nat → Trip) (u v : Value) (hu : Row w u f 7) (hv : Row w v f 7) :
    Calls Tryd.prog 26 #[u, v] w fun e w' => e = .returned (.bool true) ∧ Below w.heap.size w w' := by
  have hnP := neq_pt
  have hgP := guardP
  have hsP := eqP_self
  obtain ⟨g, cap, rfl, hu⟩ := hu
  obtain ⟨g', cap', rfl, hv⟩ := hv
  have HU := Lib.hid hu
  have HV := Lib.hid hv
  clear hu hv
  have hB0 : Below w.heap.size w w := Below.refl _ _
  go_enter Tryd.func26, Tryd.ntmps26
  go_wp2
  go_loopw [5] (fun i wr => ∃ j : Nat, j ≤ 7 ∧ i = .int .i64 j ∧ Below w.heap.size w wr) (fun i _ => (7 - intOf i).toNat)
  case atStart => exact ⟨0, by omega, rfl, hB0⟩
  case round =>
    obtain ⟨j, hj, rfl, hB⟩ := hrel
    by_cases hj7 : j < 7
    · obtain ⟨a0, a1, a2⟩ := HU.out j hj7
      obtain ⟨b0, b1, b2⟩ := HV.out j hj7
      replace a0 := cell_later hB a0
      replace a1 := cell_later hB a1
      replace a2 := cell_later hB a2
      replace b0 := cell_later hB b0
      replace b1 := cell_later hB b1
      replace b2 := cell_later hB b2
      generalize (f j).1 = x at *
      generalize (f j).2.1 = y at *
      generalize (f j).2.2 = z at *
      go_wp2_with fail
      go_quiet (fail)
      go_wp2
      go_roundw
      case rel => exact ⟨j + 1, by omega, by go_num, below_drewN hB _⟩
      case measure => simp [intOf]; omega
    · go_wp2
      go_ret
      exact ⟨rfl, hB⟩

theorem refSame_any (f : Int) (m : Bool) (w : World) (u v : Value) (hu : ScV f m w u) (hv : ScV f m w v) :
    Calls Tryd.prog 26 #[u, v] w fun e w' => e = .returned (.bool true) ∧ Below w.heap.size w w' := by
  unfold ScV at hu hv
  split at hu
  · rename_i h
    rw [if_pos h] at hv
    exact refSame_rows w _ u v hu hv
  · rename_i h
    rw [if_neg h] at hv
    subst hu; subst hv
    exact refSame_nil w
end Go.Proofs.YtahcbgngdpjhkaaDoor
