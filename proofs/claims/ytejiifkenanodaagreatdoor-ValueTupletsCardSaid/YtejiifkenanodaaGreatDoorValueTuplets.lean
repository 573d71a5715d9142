/-
  ValueTuplets answers true.
-/
import Derived.Test.YtejiifkenanodaaGreatDoorValL
import Derived.Test.YtejiifkenanodaaGreatDoorValueHalves
import Derived.OwnWalk
namespace Go.Proofs.YtejiifkenanodaaGreatDoor
open Go.RowKit

def ApRel (q : Quad) (c : Nat) (w0 : World) (l i : Value) (wr : World) : Prop := ∃ j : Nat, i = .int .i64 (j : Int) ∧ j ≤ c ∧ wr.ownsRow w0.heap.size 23 4 l j (rowOf (Val.upto (fun _ => q) j)) ∧ Below w0.heap.size w0 wr

set_option maxRecDepth 100000 in
set_option maxHeartbeats 4000000 in
theorem valueTuplets_yes (b d n e : Int) (w : World) (hR : Vars w) (B D : Int) (M K : Nat) (M2 : 2 ≤ M) (M15 : M ≤ 15) (K1 : 1 ≤ K) (K15 : K ≤ 15) (HV : Hid (∀ w, Calls Tryz.prog 14 #[vl b d n e] w fun ed w' => ed = .returned (vl B D (M : Int) (K : Int)) ∧ Below w.heap.size w w')) (hM : ((M : Int) == 0) = false) (P Q : Int) (HI : Hid (∀ w v, Vars w → Row w v (fun _ => (B, D, (M : Int), (K : Int))) M → Calls Tryz.prog 26 #[v] w fun ed w' => ed = .returned (.tuple #[rt P Q, .bool true]) ∧ Below w.heap.size w w')) (HJ : Hid (∀ w v, Vars w → Row w v (fun _ => (B, D, 0, 0)) K → Calls Tryz.prog 26 #[v] w fun ed w' => ed = .returned (.tuple #[rt P Q, .bool true]) ∧ Below w.heap.size w w')) (H1 : Hid (∀ w, Calls Tryz.prog 19 #[vl B D (M : Int) (K : Int)] w fun ed w' => ed = .returned (.bool true) ∧ Below w.heap.size w w')) (H2 : Hid (∀ w, Calls Tryz.prog 19 #[vl B D 0 0] w fun ed w' => ed = .returned (.bool true) ∧ Below w.heap.size w w')) :
    Calls Tryz.prog 5 #[vl b d n e] w fun ed w' => ed = .returned (.bool true) ∧ Below w.heap.size w w' := by
  have hgR := guardR
  have hgV := guardV
  have heR := eql_rt
  have heV := eql_vl
  have hnR := neq_rt
  have hnV := neq_vl
  have hsR := eqR_self
  have hsV := eqV_self
  obtain ⟨i0, hi, hz0, hz1, hz2⟩ := info_parts infoV
  have hB0 : Below w.heap.size w w := Below.refl _ _
  go_enter Tryz.func5, Tryz.ntmps5
  go_wp2_with fail
  have hR' := hR.below (hB0.alloc hB0.size (.cells #[.int .i64 b, .int .i64 d, .int .i64 n, .int .i64 e] 23))
  refine (examples_any _ hR').mono ?_
  rintro e w1 ⟨rfl, hb1⟩
  clear hR'
  have hs1 : Below w.heap.size w w1 := Below.trans (by repeat (first | exact Below.refl _ _ | refine Below.alloc ?_ (by simp <;> omega) _)) (hb1.mono (by simp <;> omega))
  have c_v_0 : w1.cell? ⟨w.heap.size, 0, none⟩ = some (.int .i64 b) := (hb1.cell (by simp <;> omega)).trans (by go_simp)
  have c_v_1 : w1.cell? ⟨w.heap.size, 1, none⟩ = some (.int .i64 d) := (hb1.cell (by simp <;> omega)).trans (by go_simp)
  have c_v_2 : w1.cell? ⟨w.heap.size, 2, none⟩ = some (.int .i64 n) := (hb1.cell (by simp <;> omega)).trans (by go_simp)
  have c_v_3 : w1.cell? ⟨w.heap.size, 3, none⟩ = some (.int .i64 e) := (hb1.cell (by simp <;> omega)).trans (by go_simp)
  have z_v := World.block_lt_of_cell? _ _ c_v_0
  have hB1 := below_two hB0 hs1
  clear hB0 hs1 hb1
  go_wp2_with fail
  have hR' := hR.below hB1
  refine (HV.out _).mono ?_
  rintro e w2 ⟨rfl, hb2⟩
  clear hR'
  have hs2 := hb2
  clear c_v_0
  clear c_v_1
  clear c_v_2
  clear c_v_3
  clear z_v
  have hB2 := below_two hB1 hs2
  clear hB1 hs2
  go_wp2_with fail
  have hs3 : Below w2.heap.size w2 ((w2.alloc (.cells #[.int .i64 B, .int .i64 D, .int .i64 ((M : Int)), .int .i64 ((K : Int))] 23)).alloc (.cells #[.int .i64 B, .int .i64 D, .int .i64 0, .int .i64 0] 23)) := by repeat (first | exact Below.refl _ _ | refine Below.alloc ?_ (by simp <;> omega) _)
  have c_x_0 : ((w2.alloc (.cells #[.int .i64 B, .int .i64 D, .int .i64 ((M : Int)), .int .i64 ((K : Int))] 23)).alloc (.cells #[.int .i64 B, .int .i64 D, .int .i64 0, .int .i64 0] 23)).cell? ⟨w2.heap.size, 0, none⟩ = some (.int .i64 B) := by go_simp
  have c_x_1 : ((w2.alloc (.cells #[.int .i64 B, .int .i64 D, .int .i64 ((M : Int)), .int .i64 ((K : Int))] 23)).alloc (.cells #[.int .i64 B, .int .i64 D, .int .i64 0, .int .i64 0] 23)).cell? ⟨w2.heap.size, 1, none⟩ = some (.int .i64 D) := by go_simp
  have c_x_2 : ((w2.alloc (.cells #[.int .i64 B, .int .i64 D, .int .i64 ((M : Int)), .int .i64 ((K : Int))] 23)).alloc (.cells #[.int .i64 B, .int .i64 D, .int .i64 0, .int .i64 0] 23)).cell? ⟨w2.heap.size, 2, none⟩ = some (.int .i64 ((M : Int))) := by go_simp
  have c_x_3 : ((w2.alloc (.cells #[.int .i64 B, .int .i64 D, .int .i64 ((M : Int)), .int .i64 ((K : Int))] 23)).alloc (.cells #[.int .i64 B, .int .i64 D, .int .i64 0, .int .i64 0] 23)).cell? ⟨w2.heap.size, 3, none⟩ = some (.int .i64 ((K : Int))) := by go_simp
  have c_p_0 : ((w2.alloc (.cells #[.int .i64 B, .int .i64 D, .int .i64 ((M : Int)), .int .i64 ((K : Int))] 23)).alloc (.cells #[.int .i64 B, .int .i64 D, .int .i64 0, .int .i64 0] 23)).cell? ⟨w2.heap.size + 1, 0, none⟩ = some (.int .i64 B) := by go_simp
  have c_p_1 : ((w2.alloc (.cells #[.int .i64 B, .int .i64 D, .int .i64 ((M : Int)), .int .i64 ((K : Int))] 23)).alloc (.cells #[.int .i64 B, .int .i64 D, .int .i64 0, .int .i64 0] 23)).cell? ⟨w2.heap.size + 1, 1, none⟩ = some (.int .i64 D) := by go_simp
  have c_p_2 : ((w2.alloc (.cells #[.int .i64 B, .int .i64 D, .int .i64 ((M : Int)), .int .i64 ((K : Int))] 23)).alloc (.cells #[.int .i64 B, .int .i64 D, .int .i64 0, .int .i64 0] 23)).cell? ⟨w2.heap.size + 1, 2, none⟩ = some (.int .i64 0) := by go_simp
  have c_p_3 : ((w2.alloc (.cells #[.int .i64 B, .int .i64 D, .int .i64 ((M : Int)), .int .i64 ((K : Int))] 23)).alloc (.cells #[.int .i64 B, .int .i64 D, .int .i64 0, .int .i64 0] 23)).cell? ⟨w2.heap.size + 1, 3, none⟩ = some (.int .i64 0) := by go_simp
  have hB3 := below_two hB2 hs3
  clear hB2 hs3
  generalize ((w2.alloc (.cells #[.int .i64 B, .int .i64 D, .int .i64 ((M : Int)), .int .i64 ((K : Int))] 23)).alloc (.cells #[.int .i64 B, .int .i64 D, .int .i64 0, .int .i64 0] 23)) = w3 at *
  have z_p := World.block_lt_of_cell? _ _ c_p_0
  have z_x := World.block_lt_of_cell? _ _ c_x_0
  have hX : V4 B D (M : Int) (K : Int) w2.heap.size w3 := ⟨c_x_0, c_x_1, c_x_2, c_x_3⟩
  have hY : V4 B D 0 0 (w2.heap.size + 1) w3 := ⟨c_p_0, c_p_1, c_p_2, c_p_3⟩
  clear c_x_0 c_x_1 c_x_2 c_x_3 c_p_0 c_p_1 c_p_2 c_p_3 z_x z_p
  go_loopw [6, 8] (fun l i wr => ApRel (B, D, (M : Int), (K : Int)) M w3 l i wr) (fun _ i _ => ((M : Int) - intOf i).toNat)
  case atStart => exact ⟨0, rfl, by omega, own_nil _ _ _ _, Below.refl _ _⟩
  case round =>
    obtain ⟨j, rfl, hj, hown, hBr⟩ := hrel
    have hX' := hX.later hBr
    have hY' := hY.later hBr
    obtain ⟨x0, x1, x2, x3⟩ := hX'
    obtain ⟨y0, y1, y2, y3⟩ := hY'
    by_cases hlt : j < M
    · have HOW := Lib.hid hown
      have HBR := Lib.hid hBr
      clear hown hBr
      go_wp2_with (first
        | (at_builtin; refine wpList_append_own _ rfl _ _ 31 rfl w3.heap.size 23 i0 (.agg #[.int .i64 0, .int .i64 0, .int .i64 0, .int .i64 0]) 4 32 Tryz.underlying31 hi hz0 hz1 hz2 rfl (by decide) _ _ _ rfl (HOW.out.alloc _) ⟨wr.heap.size, 0, none⟩ 1 1 [.int .i64 B, .int .i64 D, .int .i64 ((M : Int)), .int .i64 ((K : Int))] rfl rfl ?c1 ?c2 ?c3 ?c4 ?c5 ?_)
        | fail)
      case c1 => exact cells4_new _ _ _ _ _ _ rfl
      case c2 => intro u hu; simp at hu; rcases hu with rfl | rfl | rfl | rfl <;> rfl
      case c3 => unfold maxLen; omega
      case c4 => omega
      case c5 => have := HBR.out.size; simp; omega
      · intro v' w9 hown9 hgrow _
        have hb9 : Below w3.heap.size (wr.alloc (.cells #[.int .i64 B, .int .i64 D, .int .i64 ((M : Int)), .int .i64 ((K : Int))] 23)) w9 := (Below.refl _ _).grown hgrow (by have := HBR.out.size; simp; omega) (fun k hk => (HOW.out.lt k hk).1)
        have HB9 : Hid (Below w3.heap.size w3 w9) := Lib.hid ((alloc_below HBR.out).trans hb9)
        have HOWN : Hid (w9.ownsRow w3.heap.size 23 4 v' (j + 1) (rowOf (Val.upto (fun _ => (B, D, (M : Int), (K : Int))) (j + 1)))) := Lib.hid (by rw [Val.upto_succ, rowOf_append]; exact hown9)
        clear hb9 hown9 hgrow HOW HBR x0 x1 x2 x3 y0 y1 y2 y3
        go_wp2
        go_roundw
        case rel => first | exact ⟨j + 1, by go_num, by omega, HOWN.out, HB9.out⟩ | (refine ⟨_, _, _, _, _, _, _, _, _, _, _, _, ?_, rfl⟩; exact ⟨j + 1, by go_num, by omega, HOWN.out, HB9.out⟩)
        case measure => simp [intOf]; omega
    · obtain rfl : M = j := by omega
      have HROW := Lib.hid (row_of (by omega) hown)
      replace hX := hX.later hBr
      replace hY := hY.later hBr
      replace hB3 := below_two hB3 hBr
      clear hown hBr hb2 y0 y1 y2 y3
      generalize wr = w4 at *
      go_wp2_with fail
      go_loopw [7, 9] (fun l i wr => ApRel (B, D, 0, 0) K w4 l i wr) (fun _ i _ => ((K : Int) - intOf i).toNat)
      case atStart => exact ⟨0, rfl, by omega, own_nil _ _ _ _, Below.refl _ _⟩
      case round =>
        obtain ⟨t, rfl, ht, hown, hBr⟩ := hrel
        have hX' := hX.later hBr
        have hY' := hY.later hBr
        obtain ⟨x0, x1, x2, x3⟩ := hX'
        obtain ⟨y0, y1, y2, y3⟩ := hY'
        by_cases hlt : t < K
        · have HOW := Lib.hid hown
          have HBR := Lib.hid hBr
          clear hown hBr
          go_wp2_with (first
            | (at_builtin; refine wpList_append_own _ rfl _ _ 31 rfl w4.heap.size 23 i0 (.agg #[.int .i64 0, .int .i64 0, .int .i64 0, .int .i64 0]) 4 32 Tryz.underlying31 hi hz0 hz1 hz2 rfl (by decide) _ _ _ rfl (HOW.out.alloc _) ⟨wr.heap.size, 0, none⟩ 1 1 [.int .i64 B, .int .i64 D, .int .i64 0, .int .i64 0] rfl rfl ?c1 ?c2 ?c3 ?c4 ?c5 ?_)
            | fail)
          case c1 => exact cells4_new _ _ _ _ _ _ rfl
          case c2 => intro u hu; simp at hu; rcases hu with rfl | rfl | rfl | rfl <;> rfl
          case c3 => unfold maxLen; omega
          case c4 => omega
          case c5 => have := HBR.out.size; simp; omega
          · intro v' w9 hown9 hgrow _
            have hb9 : Below w4.heap.size (wr.alloc (.cells #[.int .i64 B, .int .i64 D, .int .i64 0, .int .i64 0] 23)) w9 := (Below.refl _ _).grown hgrow (by have := HBR.out.size; simp; omega) (fun k hk => (HOW.out.lt k hk).1)
            have HB9 : Hid (Below w4.heap.size w4 w9) := Lib.hid ((alloc_below HBR.out).trans hb9)
            have HOWN : Hid (w9.ownsRow w4.heap.size 23 4 v' (t + 1) (rowOf (Val.upto (fun _ => (B, D, 0, 0)) (t + 1)))) := Lib.hid (by rw [Val.upto_succ, rowOf_append]; exact hown9)
            clear hb9 hown9 hgrow HOW HBR x0 x1 x2 x3 y0 y1 y2 y3
            go_wp2
            go_roundw
            case rel => first | exact ⟨t + 1, by go_num, by omega, HOWN.out, HB9.out⟩ | (refine ⟨_, _, _, _, _, _, _, _, _, _, _, _, ?_, rfl⟩; exact ⟨t + 1, by go_num, by omega, HOWN.out, HB9.out⟩)
            case measure => simp [intOf]; omega
        · obtain rfl : t = K := by omega
          have HROW2 := Lib.hid (row_of (by omega) hown)
          replace hX := hX.later hBr
          replace hY := hY.later hBr
          replace hB3 := below_two hB3 hBr
          replace HROW := Lib.hid (HROW.out.later hBr)
          clear hown hBr y0 y1 y2 y3
          go_wp2_with fail
          refine (HI.out _ _ (hR.below hB3) HROW.out).mono ?_
          rintro ed w6 ⟨rfl, hb6⟩
          replace hX := hX.later hb6
          replace hY := hY.later hb6
          replace hB3 := below_two hB3 hb6
          replace HROW2 := Lib.hid (HROW2.out.later hb6)
          clear hb6 HROW x0 x1 x2 x3
          go_wp2_with fail
          have hx7 := hX.later ((Below.refl _ _).alloc (Nat.le_refl _) (.cells #[.int .i64 P, .int .i64 Q] 25))
          have hy7 := hY.later ((Below.refl _ _).alloc (Nat.le_refl _) (.cells #[.int .i64 P, .int .i64 Q] 25))
          have hB7 := alloc_below (o := .cells #[.int .i64 P, .int .i64 Q] 25) hB3
          have HROW3 := Lib.hid (HROW2.out.later ((Below.refl _ _).alloc (Nat.le_refl _) (.cells #[.int .i64 P, .int .i64 Q] 25)))
          have a0 : (w6.alloc (.cells #[.int .i64 P, .int .i64 Q] 25)).cell? ⟨w6.heap.size, 0, none⟩ = some (.int .i64 P) := by go_simp
          have a1 : (w6.alloc (.cells #[.int .i64 P, .int .i64 Q] 25)).cell? ⟨w6.heap.size, 1, none⟩ = some (.int .i64 Q) := by go_simp
          clear hX hY hB3 HROW2
          generalize w6.alloc (.cells #[.int .i64 P, .int .i64 Q] 25) = w7 at *
          refine (HJ.out _ _ (hR.below hB7) HROW3.out).mono ?_
          rintro ed w8 ⟨rfl, hb8⟩
          replace hx7 := hx7.later hb8
          replace hy7 := hy7.later hb8
          replace hB7 := below_two hB7 hb8
          replace a0 := cell_later hb8 a0
          replace a1 := cell_later hb8 a1
          clear hb8 HROW3
          obtain ⟨x0, x1, x2, x3⟩ := hx7
          obtain ⟨y0, y1, y2, y3⟩ := hy7
          have za := World.block_lt_of_cell? _ _ a0
          have zx := World.block_lt_of_cell? _ _ x0
          have zy := World.block_lt_of_cell? _ _ y0
          have hB8 := alloc_below (o := .cells #[.int .i64 P, .int .i64 Q] 25) hB7
          have y0' := alloc_cell (o := .cells #[.int .i64 P, .int .i64 Q] 25) y0
          have y1' := alloc_cell (o := .cells #[.int .i64 P, .int .i64 Q] 25) y1
          have y2' := alloc_cell (o := .cells #[.int .i64 P, .int .i64 Q] 25) y2
          have y3' := alloc_cell (o := .cells #[.int .i64 P, .int .i64 Q] 25) y3
          go_wp2_with fail
          refine (H1.out _).mono ?_
          rintro ed w10 ⟨rfl, hb10⟩
          replace y0' := cell_later hb10 y0'
          replace y1' := cell_later hb10 y1'
          replace y2' := cell_later hb10 y2'
          replace y3' := cell_later hb10 y3'
          replace hB8 := below_two hB8 hb10
          clear hb10
          go_wp2_with fail
          refine (H2.out _).mono ?_
          rintro ed w11 ⟨rfl, hb11⟩
          replace hB8 := below_two hB8 hb11
          clear hb11
          go_wp2
          go_ret
          exact ⟨rfl, hB8⟩

set_option maxRecDepth 100000 in
set_option maxHeartbeats 4000000 in
theorem valueTuplets_no (b d n e : Int) (w : World) (hR : Vars w) (B D : Int) (HV : Hid (∀ w, Calls Tryz.prog 14 #[vl b d n e] w fun ed w' => ed = .returned (vl B D 0 0) ∧ Below w.heap.size w w')) (P Q : Int) (HI : Hid (∀ w v, Vars w → Row w v (fun _ => (B, D, 3, 2)) 3 → Calls Tryz.prog 26 #[v] w fun ed w' => ed = .returned (.tuple #[rt P Q, .bool true]) ∧ Below w.heap.size w w')) (HJ : Hid (∀ w v, Vars w → Row w v (fun _ => (B, D, 0, 0)) 2 → Calls Tryz.prog 26 #[v] w fun ed w' => ed = .returned (.tuple #[rt P Q, .bool true]) ∧ Below w.heap.size w w')) (H1 : Hid (∀ w, Calls Tryz.prog 19 #[vl B D 3 2] w fun ed w' => ed = .returned (.bool true) ∧ Below w.heap.size w w')) (H2 : Hid (∀ w, Calls Tryz.prog 19 #[vl B D 0 0] w fun ed w' => ed = .returned (.bool true) ∧ Below w.heap.size w w')) :
    Calls Tryz.prog 5 #[vl b d n e] w fun ed w' => ed = .returned (.bool true) ∧ Below w.heap.size w w' := by
  have hgR := guardR
  have hgV := guardV
  have heR := eql_rt
  have heV := eql_vl
  have hnR := neq_rt
  have hnV := neq_vl
  have hsR := eqR_self
  have hsV := eqV_self
  obtain ⟨i0, hi, hz0, hz1, hz2⟩ := info_parts infoV
  have hB0 : Below w.heap.size w w := Below.refl _ _
  go_enter Tryz.func5, Tryz.ntmps5
  go_wp2_with fail
  have hR' := hR.below (hB0.alloc hB0.size (.cells #[.int .i64 b, .int .i64 d, .int .i64 n, .int .i64 e] 23))
  refine (examples_any _ hR').mono ?_
  rintro e w1 ⟨rfl, hb1⟩
  clear hR'
  have hs1 : Below w.heap.size w w1 := Below.trans (by repeat (first | exact Below.refl _ _ | refine Below.alloc ?_ (by simp <;> omega) _)) (hb1.mono (by simp <;> omega))
  have c_v_0 : w1.cell? ⟨w.heap.size, 0, none⟩ = some (.int .i64 b) := (hb1.cell (by simp <;> omega)).trans (by go_simp)
  have c_v_1 : w1.cell? ⟨w.heap.size, 1, none⟩ = some (.int .i64 d) := (hb1.cell (by simp <;> omega)).trans (by go_simp)
  have c_v_2 : w1.cell? ⟨w.heap.size, 2, none⟩ = some (.int .i64 n) := (hb1.cell (by simp <;> omega)).trans (by go_simp)
  have c_v_3 : w1.cell? ⟨w.heap.size, 3, none⟩ = some (.int .i64 e) := (hb1.cell (by simp <;> omega)).trans (by go_simp)
  have z_v := World.block_lt_of_cell? _ _ c_v_0
  have hB1 := below_two hB0 hs1
  clear hB0 hs1 hb1
  go_wp2_with fail
  have hR' := hR.below hB1
  refine (HV.out _).mono ?_
  rintro e w2 ⟨rfl, hb2⟩
  clear hR'
  have hs2 := hb2
  clear c_v_0
  clear c_v_1
  clear c_v_2
  clear c_v_3
  clear z_v
  have hB2 := below_two hB1 hs2
  clear hB1 hs2
  go_wp2_with fail
  have hs3 : Below w2.heap.size w2 ((w2.alloc (.cells #[.int .i64 B, .int .i64 D, .int .i64 3, .int .i64 2] 23)).alloc (.cells #[.int .i64 B, .int .i64 D, .int .i64 0, .int .i64 0] 23)) := by repeat (first | exact Below.refl _ _ | refine Below.alloc ?_ (by simp <;> omega) _)
  have c_x_0 : ((w2.alloc (.cells #[.int .i64 B, .int .i64 D, .int .i64 3, .int .i64 2] 23)).alloc (.cells #[.int .i64 B, .int .i64 D, .int .i64 0, .int .i64 0] 23)).cell? ⟨w2.heap.size, 0, none⟩ = some (.int .i64 B) := by go_simp
  have c_x_1 : ((w2.alloc (.cells #[.int .i64 B, .int .i64 D, .int .i64 3, .int .i64 2] 23)).alloc (.cells #[.int .i64 B, .int .i64 D, .int .i64 0, .int .i64 0] 23)).cell? ⟨w2.heap.size, 1, none⟩ = some (.int .i64 D) := by go_simp
  have c_x_2 : ((w2.alloc (.cells #[.int .i64 B, .int .i64 D, .int .i64 3, .int .i64 2] 23)).alloc (.cells #[.int .i64 B, .int .i64 D, .int .i64 0, .int .i64 0] 23)).cell? ⟨w2.heap.size, 2, none⟩ = some (.int .i64 3) := by go_simp
  have c_x_3 : ((w2.alloc (.cells #[.int .i64 B, .int .i64 D, .int .i64 3, .int .i64 2] 23)).alloc (.cells #[.int .i64 B, .int .i64 D, .int .i64 0, .int .i64 0] 23)).cell? ⟨w2.heap.size, 3, none⟩ = some (.int .i64 2) := by go_simp
  have c_p_0 : ((w2.alloc (.cells #[.int .i64 B, .int .i64 D, .int .i64 3, .int .i64 2] 23)).alloc (.cells #[.int .i64 B, .int .i64 D, .int .i64 0, .int .i64 0] 23)).cell? ⟨w2.heap.size + 1, 0, none⟩ = some (.int .i64 B) := by go_simp
  have c_p_1 : ((w2.alloc (.cells #[.int .i64 B, .int .i64 D, .int .i64 3, .int .i64 2] 23)).alloc (.cells #[.int .i64 B, .int .i64 D, .int .i64 0, .int .i64 0] 23)).cell? ⟨w2.heap.size + 1, 1, none⟩ = some (.int .i64 D) := by go_simp
  have c_p_2 : ((w2.alloc (.cells #[.int .i64 B, .int .i64 D, .int .i64 3, .int .i64 2] 23)).alloc (.cells #[.int .i64 B, .int .i64 D, .int .i64 0, .int .i64 0] 23)).cell? ⟨w2.heap.size + 1, 2, none⟩ = some (.int .i64 0) := by go_simp
  have c_p_3 : ((w2.alloc (.cells #[.int .i64 B, .int .i64 D, .int .i64 3, .int .i64 2] 23)).alloc (.cells #[.int .i64 B, .int .i64 D, .int .i64 0, .int .i64 0] 23)).cell? ⟨w2.heap.size + 1, 3, none⟩ = some (.int .i64 0) := by go_simp
  have hB3 := below_two hB2 hs3
  clear hB2 hs3
  generalize ((w2.alloc (.cells #[.int .i64 B, .int .i64 D, .int .i64 3, .int .i64 2] 23)).alloc (.cells #[.int .i64 B, .int .i64 D, .int .i64 0, .int .i64 0] 23)) = w3 at *
  have z_p := World.block_lt_of_cell? _ _ c_p_0
  have z_x := World.block_lt_of_cell? _ _ c_x_0
  have hX : V4 B D 3 2 w2.heap.size w3 := ⟨c_x_0, c_x_1, c_x_2, c_x_3⟩
  have hY : V4 B D 0 0 (w2.heap.size + 1) w3 := ⟨c_p_0, c_p_1, c_p_2, c_p_3⟩
  clear c_x_0 c_x_1 c_x_2 c_x_3 c_p_0 c_p_1 c_p_2 c_p_3 z_x z_p
  go_loopw [6, 8] (fun l i wr => ApRel (B, D, 3, 2) 3 w3 l i wr) (fun _ i _ => (3 - intOf i).toNat)
  case atStart => exact ⟨0, rfl, by omega, own_nil _ _ _ _, Below.refl _ _⟩
  case round =>
    obtain ⟨j, rfl, hj, hown, hBr⟩ := hrel
    have hX' := hX.later hBr
    have hY' := hY.later hBr
    obtain ⟨x0, x1, x2, x3⟩ := hX'
    obtain ⟨y0, y1, y2, y3⟩ := hY'
    by_cases hlt : j < 3
    · have HOW := Lib.hid hown
      have HBR := Lib.hid hBr
      clear hown hBr
      go_wp2_with (first
        | (at_builtin; refine wpList_append_own _ rfl _ _ 31 rfl w3.heap.size 23 i0 (.agg #[.int .i64 0, .int .i64 0, .int .i64 0, .int .i64 0]) 4 32 Tryz.underlying31 hi hz0 hz1 hz2 rfl (by decide) _ _ _ rfl (HOW.out.alloc _) ⟨wr.heap.size, 0, none⟩ 1 1 [.int .i64 B, .int .i64 D, .int .i64 3, .int .i64 2] rfl rfl ?c1 ?c2 ?c3 ?c4 ?c5 ?_)
        | fail)
      case c1 => exact cells4_new _ _ _ _ _ _ rfl
      case c2 => intro u hu; simp at hu; rcases hu with rfl | rfl | rfl | rfl <;> rfl
      case c3 => unfold maxLen; omega
      case c4 => omega
      case c5 => have := HBR.out.size; simp; omega
      · intro v' w9 hown9 hgrow _
        have hb9 : Below w3.heap.size (wr.alloc (.cells #[.int .i64 B, .int .i64 D, .int .i64 3, .int .i64 2] 23)) w9 := (Below.refl _ _).grown hgrow (by have := HBR.out.size; simp; omega) (fun k hk => (HOW.out.lt k hk).1)
        have HB9 : Hid (Below w3.heap.size w3 w9) := Lib.hid ((alloc_below HBR.out).trans hb9)
        have HOWN : Hid (w9.ownsRow w3.heap.size 23 4 v' (j + 1) (rowOf (Val.upto (fun _ => (B, D, 3, 2)) (j + 1)))) := Lib.hid (by rw [Val.upto_succ, rowOf_append]; exact hown9)
        clear hb9 hown9 hgrow HOW HBR x0 x1 x2 x3 y0 y1 y2 y3
        go_wp2
        go_roundw
        case rel => first | exact ⟨j + 1, by go_num, by omega, HOWN.out, HB9.out⟩ | (refine ⟨_, _, _, _, _, _, _, _, _, _, _, _, ?_, rfl⟩; exact ⟨j + 1, by go_num, by omega, HOWN.out, HB9.out⟩)
        case measure => simp [intOf]; omega
    · obtain rfl : j = 3 := by omega
      have HROW := Lib.hid (row_of (by omega) hown)
      replace hX := hX.later hBr
      replace hY := hY.later hBr
      replace hB3 := below_two hB3 hBr
      clear hown hBr hb2 y0 y1 y2 y3
      generalize wr = w4 at *
      go_wp2_with fail
      go_loopw [7, 9] (fun l i wr => ApRel (B, D, 0, 0) 2 w4 l i wr) (fun _ i _ => (2 - intOf i).toNat)
      case atStart => exact ⟨0, rfl, by omega, own_nil _ _ _ _, Below.refl _ _⟩
      case round =>
        obtain ⟨t, rfl, ht, hown, hBr⟩ := hrel
        have hX' := hX.later hBr
        have hY' := hY.later hBr
        obtain ⟨x0, x1, x2, x3⟩ := hX'
        obtain ⟨y0, y1, y2, y3⟩ := hY'
        by_cases hlt : t < 2
        · have HOW := Lib.hid hown
          have HBR := Lib.hid hBr
          clear hown hBr
          go_wp2_with (first
            | (at_builtin; refine wpList_append_own _ rfl _ _ 31 rfl w4.heap.size 23 i0 (.agg #[.int .i64 0, .int .i64 0, .int .i64 0, .int .i64 0]) 4 32 Tryz.underlying31 hi hz0 hz1 hz2 rfl (by decide) _ _ _ rfl (HOW.out.alloc _) ⟨wr.heap.size, 0, none⟩ 1 1 [.int .i64 B, .int .i64 D, .int .i64 0, .int .i64 0] rfl rfl ?c1 ?c2 ?c3 ?c4 ?c5 ?_)
            | fail)
          case c1 => exact cells4_new _ _ _ _ _ _ rfl
          case c2 => intro u hu; simp at hu; rcases hu with rfl | rfl | rfl | rfl <;> rfl
          case c3 => unfold maxLen; omega
          case c4 => omega
          case c5 => have := HBR.out.size; simp; omega
          · intro v' w9 hown9 hgrow _
            have hb9 : Below w4.heap.size (wr.alloc (.cells #[.int .i64 B, .int .i64 D, .int .i64 0, .int .i64 0] 23)) w9 := (Below.refl _ _).grown hgrow (by have := HBR.out.size; simp; omega) (fun k hk => (HOW.out.lt k hk).1)
            have HB9 : Hid (Below w4.heap.size w4 w9) := Lib.hid ((alloc_below HBR.out).trans hb9)
            have HOWN : Hid (w9.ownsRow w4.heap.size 23 4 v' (t + 1) (rowOf (Val.upto (fun _ => (B, D, 0, 0)) (t + 1)))) := Lib.hid (by rw [Val.upto_succ, rowOf_append]; exact hown9)
            clear hb9 hown9 hgrow HOW HBR x0 x1 x2 x3 y0 y1 y2 y3
            go_wp2
            go_roundw
            case rel => first | exact ⟨t + 1, by go_num, by omega, HOWN.out, HB9.out⟩ | (refine ⟨_, _, _, _, _, _, _, _, _, _, _, _, ?_, rfl⟩; exact ⟨t + 1, by go_num, by omega, HOWN.out, HB9.out⟩)
            case measure => simp [intOf]; omega
        · obtain rfl : t = 2 := by omega
          have HROW2 := Lib.hid (row_of (by omega) hown)
          replace hX := hX.later hBr
          replace hY := hY.later hBr
          replace hB3 := below_two hB3 hBr
          replace HROW := Lib.hid (HROW.out.later hBr)
          clear hown hBr y0 y1 y2 y3
          go_wp2_with fail
          refine (HI.out _ _ (hR.below hB3) HROW.out).mono ?_
          rintro ed w6 ⟨rfl, hb6⟩
          replace hX := hX.later hb6
          replace hY := hY.later hb6
          replace hB3 := below_two hB3 hb6
          replace HROW2 := Lib.hid (HROW2.out.later hb6)
          clear hb6 HROW x0 x1 x2 x3
          go_wp2_with fail
          have hx7 := hX.later ((Below.refl _ _).alloc (Nat.le_refl _) (.cells #[.int .i64 P, .int .i64 Q] 25))
          have hy7 := hY.later ((Below.refl _ _).alloc (Nat.le_refl _) (.cells #[.int .i64 P, .int .i64 Q] 25))
          have hB7 := alloc_below (o := .cells #[.int .i64 P, .int .i64 Q] 25) hB3
          have HROW3 := Lib.hid (HROW2.out.later ((Below.refl _ _).alloc (Nat.le_refl _) (.cells #[.int .i64 P, .int .i64 Q] 25)))
          have a0 : (w6.alloc (.cells #[.int .i64 P, .int .i64 Q] 25)).cell? ⟨w6.heap.size, 0, none⟩ = some (.int .i64 P) := by go_simp
          have a1 : (w6.alloc (.cells #[.int .i64 P, .int .i64 Q] 25)).cell? ⟨w6.heap.size, 1, none⟩ = some (.int .i64 Q) := by go_simp
          clear hX hY hB3 HROW2
          generalize w6.alloc (.cells #[.int .i64 P, .int .i64 Q] 25) = w7 at *
          refine (HJ.out _ _ (hR.below hB7) HROW3.out).mono ?_
          rintro ed w8 ⟨rfl, hb8⟩
          replace hx7 := hx7.later hb8
          replace hy7 := hy7.later hb8
          replace hB7 := below_two hB7 hb8
          replace a0 := cell_later hb8 a0
          replace a1 := cell_later hb8 a1
          clear hb8 HROW3
          obtain ⟨x0, x1, x2, x3⟩ := hx7
          obtain ⟨y0, y1, y2, y3⟩ := hy7
          have za := World.block_lt_of_cell? _ _ a0
          have zx := World.block_lt_of_cell? _ _ x0
          have zy := World.block_lt_of_cell? _ _ y0
          have hB8 := alloc_below (o := .cells #[.int .i64 P, .int .i64 Q] 25) hB7
          have y0' := alloc_cell (o := .cells #[.int .i64 P, .int .i64 Q] 25) y0
          have y1' := alloc_cell (o := .cells #[.int .i64 P, .int .i64 Q] 25) y1
          have y2' := alloc_cell (o := .cells #[.int .i64 P, .int .i64 Q] 25) y2
          have y3' := alloc_cell (o := .cells #[.int .i64 P, .int .i64 Q] 25) y3
          go_wp2_with fail
          refine (H1.out _).mono ?_
          rintro ed w10 ⟨rfl, hb10⟩
          replace y0' := cell_later hb10 y0'
          replace y1' := cell_later hb10 y1'
          replace y2' := cell_later hb10 y2'
          replace y3' := cell_later hb10 y3'
          replace hB8 := below_two hB8 hb10
          clear hb10
          go_wp2_with fail
          refine (H2.out _).mono ?_
          rintro ed w11 ⟨rfl, hb11⟩
          replace hB8 := below_two hB8 hb11
          clear hb11
          go_wp2
          go_ret
          exact ⟨rfl, hB8⟩

/-- So many values of one length, together. -/
theorem sum_same {b d n e : Int} (h : Val.ok b d n e = true) {m : Nat} (h15 : m ≤ 15) (w : World) (v : Value) (hR : Vars w) (hr : Row w v (fun _ => (b, d, n, e)) m) :
    Calls Tryz.prog 26 #[v] w fun ed w' => ed = .returned (.tuple #[rt (Rat.ofN (m * Val.lnN b d n e) (Val.lnD n)) (Rat.ofD (m * Val.lnN b d n e) (Val.lnD n)), .bool true]) ∧ Below w.heap.size w w' := by
  obtain ⟨g, cap, rfl, hc⟩ := hr
  obtain ⟨hs, hN, hD⟩ := Val.len_small h
  have hb := Val.ln_bounds h
  have hsm : ∀ i : Nat, i ≤ 15 → Val.Small ((i : Int) * Val.lnN b d n e) (Val.lnD n) := fun i hi => by
    have h1 : (i : Int) * Val.lnN b d n e ≤ (i : Int) * 6720 := Int.mul_le_mul_of_nonneg_left hb.2.1 (by omega)
    have h2 : 0 ≤ (i : Int) * Val.lnN b d n e := Int.mul_nonneg (by omega) (by omega)
    exact ⟨h2, by omega, hs.d0, hs.d1⟩
  have z := Val.same_of (hsm 0 (by decide)) (show Val.Small 0 1 from ⟨by omega, by omega, by omega, by omega⟩) (by simp)
  refine sum_row (fun _ => (b, d, n, e)) m g cap (fun i => Rat.ofN ((i : Int) * Val.lnN b d n e) (Val.lnD n)) (fun i => Rat.ofD ((i : Int) * Val.lnN b d n e) (Val.lnD n)) w hR (by omega) ⟨g, cap, rfl, hc⟩ ?_ ?_ (Lib.hid fun i hi => ⟨h, fun w => ?_⟩)
  · rw [z.1]; decide +kernel
  · rw [z.2]; decide +kernel
  · have := add_call (hsm i (by omega)) hs (hsm (i + 1) (by omega)) (by rw [show ((i + 1 : Nat) : Int) = (i : Int) + 1 by omega]; grind) w
    rw [← hN, ← hD] at this
    exact this
theorem tuplets_same {b d : Int} (b0 : 0 ≤ b) (b6 : b ≤ 6) (d0 : 0 ≤ d) (d2 : d ≤ 2) {m k : Nat} (m2 : 2 ≤ m) (m15 : m ≤ 15) (_k1 : 1 ≤ k) (k15 : k ≤ 15) :
    Rat.ofN (m * Val.lnN b d m k) (Val.lnD m) = Rat.ofN (k * Val.lnN b d 0 0) (Val.lnD 0) ∧ Rat.ofD (m * Val.lnN b d m k) (Val.lnD m) = Rat.ofD (k * Val.lnN b d 0 0) (Val.lnD 0) := by
  have hb := Val.bd_bounds b0 b6 d0 d2
  have e1 : Val.lnN b d m k = Val.ba b * Val.dt d * k := by unfold Val.lnN Val.te; rw [if_neg (by omega)]
  have e2 : Val.lnD m = 256 * m := by unfold Val.lnD Val.tn; rw [if_neg (by omega)]
  have e3 : Val.lnN b d 0 0 = Val.ba b * Val.dt d := by unfold Val.lnN Val.te; rw [if_pos rfl, Int.mul_one]
  have e4 : Val.lnD 0 = 256 := by decide
  rw [e1, e2, e3, e4]
  generalize Val.ba b * Val.dt d = X at *
  have hx : ∀ i : Nat, i ≤ 15 → 0 ≤ X * (i : Int) ∧ X * (i : Int) ≤ 6720 := fun i hi => by
    have h1 : X * (i : Int) ≤ X * 15 := Int.mul_le_mul_of_nonneg_left (by omega) (by omega)
    have h2 : 0 ≤ X * (i : Int) := Int.mul_nonneg (by omega) (by omega)
    exact ⟨h2, by omega⟩
  have hk := hx k k15
  have h3 : (m : Int) * (X * k) ≤ (m : Int) * 6720 := Int.mul_le_mul_of_nonneg_left hk.2 (by omega)
  have h4 : 0 ≤ (m : Int) * (X * k) := Int.mul_nonneg (by omega) hk.1
  have h5 : (k : Int) * X = X * k := Int.mul_comm _ _
  exact Val.same_of ⟨h4, by omega, by omega, by omega⟩ ⟨by omega, by omega, by omega, by omega⟩ (by grind)
theorem valueTuplets_calls (b d n e : Int) (ib : Rat.I64 b) (id' : Rat.I64 d) (in' : Rat.I64 n) (ie : Rat.I64 e) (w : World) (hR : Vars w) :
    Calls Tryz.prog 5 #[vl b d n e] w fun ed w' => ed = .returned (.bool true) ∧ Below w.heap.size w w' := by
  obtain ⟨N, E, hok, hv⟩ := value_fix b d n e ib id' in' ie
  obtain ⟨b0, b6, d0, d2, hk⟩ := (Val.ok_iff _ _ _ _).1 hok
  generalize pickS b 7 = B at *
  generalize pickS d 3 = D at *
  have op : Val.ok B D 0 0 = true := (Val.ok_iff _ _ _ _).2 ⟨b0, b6, d0, d2, .inl ⟨rfl, rfl⟩⟩
  have rt' : ∀ {x y z u : Int}, Val.ok x y z u = true → ∀ w, Calls Tryz.prog 19 #[vl x y z u] w fun ed w' => ed = .returned (.bool true) ∧ Below w.heap.size w w' := fun {x y z u} h w => by
    have := vright_any x y z u w
    rw [h] at this
    exact this
  rcases hk with ⟨rfl, rfl⟩ | ⟨n2, n15, e1, e15, hne⟩
  · have o3 : Val.ok B D 3 2 = true := (Val.ok_iff _ _ _ _).2 ⟨b0, b6, d0, d2, .inr ⟨by omega, by omega, by omega, by omega, by omega⟩⟩
    have hs := tuplets_same b0 b6 d0 d2 (m := 3) (k := 2) (by omega) (by omega) (by omega) (by omega)
    refine valueTuplets_no b d n e w hR B D (Lib.hid hv) _ _ (Lib.hid fun w v hR hr => sum_same o3 (by omega) w v hR hr) (Lib.hid fun w v hR hr => ?_) (Lib.hid (rt' o3)) (Lib.hid (rt' op))
    have := sum_same op (m := 2) (by omega) w v hR hr
    rw [← hs.1, ← hs.2] at this
    exact this
  · obtain ⟨M, rfl⟩ : ∃ M : Nat, N = M := ⟨N.toNat, by omega⟩
    obtain ⟨K, rfl⟩ : ∃ K : Nat, E = K := ⟨E.toNat, by omega⟩
    have hs := tuplets_same b0 b6 d0 d2 (m := M) (k := K) (by omega) (by omega) (by omega) (by omega)
    refine valueTuplets_yes b d n e w hR B D M K (by omega) (by omega) (by omega) (by omega) (Lib.hid hv) (by simp; omega) _ _ (Lib.hid fun w v hR hr => sum_same hok (by omega) w v hR hr) (Lib.hid fun w v hR hr => ?_) (Lib.hid (rt' hok)) (Lib.hid (rt' op))
    have := sum_same op (m := K) (by omega) w v hR hr
    rw [← hs.1, ← hs.2] at this
    exact this
end Go.Proofs.YtejiifkenanodaaGreatDoor
