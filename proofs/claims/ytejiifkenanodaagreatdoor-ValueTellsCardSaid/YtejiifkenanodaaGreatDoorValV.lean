/-
  The contract of the statements' own split: the program and the reference find and split alike.
-/
import Derived.Test.YtejiifkenanodaaGreatDoorValSplF
import Derived.Test.YtejiifkenanodaaGreatDoorValN
import Derived.Test.YtejiifkenanodaaGreatDoorValP
import Derived.LoopN
import Derived.Deep.QuietTactic
import Derived.BigQuiet
namespace Go.Proofs.YtejiifkenanodaaGreatDoor
open Go.RowKit

set_option maxRecDepth 100000 in
set_option maxHeartbeats 4000000 in
theorem lawSplit_no (x y : Int) (w : World) (hR : Vars w) (f0 f1 f2 f3 : Int) (o : Bool) (HF : Hid (∀ w, Vars w → Calls Tryz.prog 27 #[rt x y] w fun ed w' => ed = .returned (.tuple #[vl f0 f1 f2 f3, .bool o]) ∧ Below w.heap.size w w')) (HG : Hid (∀ w, Calls Tryz.prog 47 #[rt x y] w fun ed w' => ed = .returned (.tuple #[vl f0 f1 f2 f3, .bool o]) ∧ Below w.heap.size w w')) (HS : Hid (∀ w, Vars w → Calls Tryz.prog 30 #[rt x y] w fun ed w' => ed = .returned (.tuple #[.slice none 0 0, .int .i64 41]) ∧ Below w.heap.size w w')) (HT : Hid (∀ w, Calls Tryz.prog 48 #[rt x y] w fun ed w' => ed = .returned (.tuple #[.slice none 0 0, .int .i64 41]) ∧ Below w.heap.size w w')) :
    Calls Tryz.prog 21 #[rt x y] w fun ed w' => ed = .returned (.bool true) ∧ Below w.heap.size w w' := by
  have hgR := guardR
  have hgV := guardV
  have heR := eql_rt
  have heV := eql_vl
  have hnR := neq_rt
  have hnV := neq_vl
  have hsR := eqR_self
  have hsV := eqV_self
  have hoo : (o != o) = false := by cases o <;> rfl
  have hB0 : Below w.heap.size w w := Below.refl _ _
  go_enter Tryz.func21, Tryz.ntmps21
  go_wp2_with fail
  have hR' := hR.below (hB0.alloc hB0.size (.cells #[.int .i64 x, .int .i64 y] 25))
  refine (HF.out _ hR').mono ?_
  rintro e w1 ⟨rfl, hb1⟩
  clear hR'
  have hs1 : Below w.heap.size w w1 := Below.trans (by repeat (first | exact Below.refl _ _ | refine Below.alloc ?_ (by simp <;> omega) _)) (hb1.mono (by simp <;> omega))
  have c_l_0 : w1.cell? ⟨w.heap.size, 0, none⟩ = some (.int .i64 x) := (hb1.cell (by simp <;> omega)).trans (by go_simp)
  have c_l_1 : w1.cell? ⟨w.heap.size, 1, none⟩ = some (.int .i64 y) := (hb1.cell (by simp <;> omega)).trans (by go_simp)
  have z_l := World.block_lt_of_cell? _ _ c_l_0
  have hB1 := below_two hB0 hs1
  clear hB0 hs1 hb1
  go_wp2_with fail
  have hR' := hR.below (hB1.alloc hB1.size (.cells #[.int .i64 f0, .int .i64 f1, .int .i64 f2, .int .i64 f3] 23))
  refine (HG.out _).mono ?_
  rintro e w2 ⟨rfl, hb2⟩
  clear hR'
  have hs2 : Below w1.heap.size w1 w2 := Below.trans (by repeat (first | exact Below.refl _ _ | refine Below.alloc ?_ (by simp <;> omega) _)) (hb2.mono (by simp <;> omega))
  replace c_l_0 := cell_later hs2 c_l_0
  replace c_l_1 := cell_later hs2 c_l_1
  have c_a_0 : w2.cell? ⟨w1.heap.size, 0, none⟩ = some (.int .i64 f0) := (hb2.cell (by simp <;> omega)).trans (by go_simp)
  have c_a_1 : w2.cell? ⟨w1.heap.size, 1, none⟩ = some (.int .i64 f1) := (hb2.cell (by simp <;> omega)).trans (by go_simp)
  have c_a_2 : w2.cell? ⟨w1.heap.size, 2, none⟩ = some (.int .i64 f2) := (hb2.cell (by simp <;> omega)).trans (by go_simp)
  have c_a_3 : w2.cell? ⟨w1.heap.size, 3, none⟩ = some (.int .i64 f3) := (hb2.cell (by simp <;> omega)).trans (by go_simp)
  have z_a := World.block_lt_of_cell? _ _ c_a_0
  clear z_l
  have z_l := World.block_lt_of_cell? _ _ c_l_0
  have hB2 := below_two hB1 hs2
  clear hB1 hs2 hb2
  go_wp2_with fail
  have hR' := hR.below (hB2.alloc hB2.size (.cells #[.int .i64 f0, .int .i64 f1, .int .i64 f2, .int .i64 f3] 23))
  refine (HS.out _ hR').mono ?_
  rintro e w3 ⟨rfl, hb3⟩
  clear hR'
  have hs3 : Below w2.heap.size w2 w3 := Below.trans (by repeat (first | exact Below.refl _ _ | refine Below.alloc ?_ (by simp <;> omega) _)) (hb3.mono (by simp <;> omega))
  replace c_l_0 := cell_later hs3 c_l_0
  replace c_l_1 := cell_later hs3 c_l_1
  replace c_a_0 := cell_later hs3 c_a_0
  replace c_a_1 := cell_later hs3 c_a_1
  replace c_a_2 := cell_later hs3 c_a_2
  replace c_a_3 := cell_later hs3 c_a_3
  have c_b_0 : w3.cell? ⟨w2.heap.size, 0, none⟩ = some (.int .i64 f0) := (hb3.cell (by simp <;> omega)).trans (by go_simp)
  have c_b_1 : w3.cell? ⟨w2.heap.size, 1, none⟩ = some (.int .i64 f1) := (hb3.cell (by simp <;> omega)).trans (by go_simp)
  have c_b_2 : w3.cell? ⟨w2.heap.size, 2, none⟩ = some (.int .i64 f2) := (hb3.cell (by simp <;> omega)).trans (by go_simp)
  have c_b_3 : w3.cell? ⟨w2.heap.size, 3, none⟩ = some (.int .i64 f3) := (hb3.cell (by simp <;> omega)).trans (by go_simp)
  clear z_a
  have z_a := World.block_lt_of_cell? _ _ c_a_0
  have z_b := World.block_lt_of_cell? _ _ c_b_0
  clear z_l
  have z_l := World.block_lt_of_cell? _ _ c_l_0
  have hB3 := below_two hB2 hs3
  clear hB2 hs3 hb3
  go_wp2_with fail
  have hR' := hR.below hB3
  refine (HT.out _).mono ?_
  rintro e w4 ⟨rfl, hb4⟩
  clear hR'
  have hs4 := hb4
  replace c_l_0 := cell_later hs4 c_l_0
  replace c_l_1 := cell_later hs4 c_l_1
  replace c_a_0 := cell_later hs4 c_a_0
  replace c_a_1 := cell_later hs4 c_a_1
  replace c_a_2 := cell_later hs4 c_a_2
  replace c_a_3 := cell_later hs4 c_a_3
  replace c_b_0 := cell_later hs4 c_b_0
  replace c_b_1 := cell_later hs4 c_b_1
  replace c_b_2 := cell_later hs4 c_b_2
  replace c_b_3 := cell_later hs4 c_b_3
  clear z_a
  have z_a := World.block_lt_of_cell? _ _ c_a_0
  clear z_b
  have z_b := World.block_lt_of_cell? _ _ c_b_0
  clear z_l
  have z_l := World.block_lt_of_cell? _ _ c_l_0
  have hB4 := below_two hB3 hs4
  clear hB3 hs4
  go_wp2
  refine wp_loop_rounds 1 ?_
  rw [rounds_succ]
  go_wp2
  go_ret
  exact ⟨rfl, hB4⟩

set_option maxRecDepth 100000 in
set_option maxHeartbeats 4000000 in
theorem lawSplit_some (x y : Int) (w : World) (hR : Vars w) (f0 f1 f2 f3 : Int) (o : Bool) (HF : Hid (∀ w, Vars w → Calls Tryz.prog 27 #[rt x y] w fun ed w' => ed = .returned (.tuple #[vl f0 f1 f2 f3, .bool o]) ∧ Below w.heap.size w w')) (HG : Hid (∀ w, Calls Tryz.prog 47 #[rt x y] w fun ed w' => ed = .returned (.tuple #[vl f0 f1 f2 f3, .bool o]) ∧ Below w.heap.size w w')) (q : Nat → Quad) (k : Nat) (hk : k ≤ 1000000) (HS : Hid (∀ w, Vars w → Calls Tryz.prog 30 #[rt x y] w fun ed w' => (∃ v, ed = .returned (.tuple #[v, .int .i64 0]) ∧ Row w' v q k) ∧ Below w.heap.size w w')) (HT : Hid (∀ w, Calls Tryz.prog 48 #[rt x y] w fun ed w' => (∃ v, ed = .returned (.tuple #[v, .int .i64 0]) ∧ Row w' v q k) ∧ Below w.heap.size w w')) :
    Calls Tryz.prog 21 #[rt x y] w fun ed w' => ed = .returned (.bool true) ∧ Below w.heap.size w w' := by
  have hgR := guardR
  have hgV := guardV
  have heR := eql_rt
  have heV := eql_vl
  have hnR := neq_rt
  have hnV := neq_vl
  have hsR := eqR_self
  have hsV := eqV_self
  have hoo : (o != o) = false := by cases o <;> rfl
  have hB0 : Below w.heap.size w w := Below.refl _ _
  go_enter Tryz.func21, Tryz.ntmps21
  go_wp2_with fail
  have hR' := hR.below (hB0.alloc hB0.size (.cells #[.int .i64 x, .int .i64 y] 25))
  refine (HF.out _ hR').mono ?_
  rintro e w1 ⟨rfl, hb1⟩
  clear hR'
  have hs1 : Below w.heap.size w w1 := Below.trans (by repeat (first | exact Below.refl _ _ | refine Below.alloc ?_ (by simp <;> omega) _)) (hb1.mono (by simp <;> omega))
  have c_l_0 : w1.cell? ⟨w.heap.size, 0, none⟩ = some (.int .i64 x) := (hb1.cell (by simp <;> omega)).trans (by go_simp)
  have c_l_1 : w1.cell? ⟨w.heap.size, 1, none⟩ = some (.int .i64 y) := (hb1.cell (by simp <;> omega)).trans (by go_simp)
  have z_l := World.block_lt_of_cell? _ _ c_l_0
  have hB1 := below_two hB0 hs1
  clear hB0 hs1 hb1
  go_wp2_with fail
  have hR' := hR.below (hB1.alloc hB1.size (.cells #[.int .i64 f0, .int .i64 f1, .int .i64 f2, .int .i64 f3] 23))
  refine (HG.out _).mono ?_
  rintro e w2 ⟨rfl, hb2⟩
  clear hR'
  have hs2 : Below w1.heap.size w1 w2 := Below.trans (by repeat (first | exact Below.refl _ _ | refine Below.alloc ?_ (by simp <;> omega) _)) (hb2.mono (by simp <;> omega))
  replace c_l_0 := cell_later hs2 c_l_0
  replace c_l_1 := cell_later hs2 c_l_1
  have c_a_0 : w2.cell? ⟨w1.heap.size, 0, none⟩ = some (.int .i64 f0) := (hb2.cell (by simp <;> omega)).trans (by go_simp)
  have c_a_1 : w2.cell? ⟨w1.heap.size, 1, none⟩ = some (.int .i64 f1) := (hb2.cell (by simp <;> omega)).trans (by go_simp)
  have c_a_2 : w2.cell? ⟨w1.heap.size, 2, none⟩ = some (.int .i64 f2) := (hb2.cell (by simp <;> omega)).trans (by go_simp)
  have c_a_3 : w2.cell? ⟨w1.heap.size, 3, none⟩ = some (.int .i64 f3) := (hb2.cell (by simp <;> omega)).trans (by go_simp)
  have z_a := World.block_lt_of_cell? _ _ c_a_0
  clear z_l
  have z_l := World.block_lt_of_cell? _ _ c_l_0
  have hB2 := below_two hB1 hs2
  clear hB1 hs2 hb2
  go_wp2_with fail
  have hR' := hR.below (hB2.alloc hB2.size (.cells #[.int .i64 f0, .int .i64 f1, .int .i64 f2, .int .i64 f3] 23))
  refine (HS.out _ hR').mono ?_
  rintro e w3 ⟨⟨sv, rfl, hrow⟩, hb3⟩
  clear hR'
  have hs3 : Below w2.heap.size w2 w3 := Below.trans (by repeat (first | exact Below.refl _ _ | refine Below.alloc ?_ (by simp <;> omega) _)) (hb3.mono (by simp <;> omega))
  replace c_l_0 := cell_later hs3 c_l_0
  replace c_l_1 := cell_later hs3 c_l_1
  replace c_a_0 := cell_later hs3 c_a_0
  replace c_a_1 := cell_later hs3 c_a_1
  replace c_a_2 := cell_later hs3 c_a_2
  replace c_a_3 := cell_later hs3 c_a_3
  have c_b_0 : w3.cell? ⟨w2.heap.size, 0, none⟩ = some (.int .i64 f0) := (hb3.cell (by simp <;> omega)).trans (by go_simp)
  have c_b_1 : w3.cell? ⟨w2.heap.size, 1, none⟩ = some (.int .i64 f1) := (hb3.cell (by simp <;> omega)).trans (by go_simp)
  have c_b_2 : w3.cell? ⟨w2.heap.size, 2, none⟩ = some (.int .i64 f2) := (hb3.cell (by simp <;> omega)).trans (by go_simp)
  have c_b_3 : w3.cell? ⟨w2.heap.size, 3, none⟩ = some (.int .i64 f3) := (hb3.cell (by simp <;> omega)).trans (by go_simp)
  clear z_a
  have z_a := World.block_lt_of_cell? _ _ c_a_0
  have z_b := World.block_lt_of_cell? _ _ c_b_0
  clear z_l
  have z_l := World.block_lt_of_cell? _ _ c_l_0
  have hB3 := below_two hB2 hs3
  clear hB2 hs3 hb3
  have HROW := Lib.hid hrow
  obtain ⟨g, cap, rfl, hc⟩ := hrow
  clear hc
  go_wp2_with fail
  have hR' := hR.below hB3
  refine (HT.out _).mono ?_
  rintro e w4 ⟨⟨tv, rfl, hrow2⟩, hb4⟩
  clear hR'
  have hs4 := hb4
  replace c_l_0 := cell_later hs4 c_l_0
  replace c_l_1 := cell_later hs4 c_l_1
  replace c_a_0 := cell_later hs4 c_a_0
  replace c_a_1 := cell_later hs4 c_a_1
  replace c_a_2 := cell_later hs4 c_a_2
  replace c_a_3 := cell_later hs4 c_a_3
  replace c_b_0 := cell_later hs4 c_b_0
  replace c_b_1 := cell_later hs4 c_b_1
  replace c_b_2 := cell_later hs4 c_b_2
  replace c_b_3 := cell_later hs4 c_b_3
  clear z_a
  have z_a := World.block_lt_of_cell? _ _ c_a_0
  clear z_b
  have z_b := World.block_lt_of_cell? _ _ c_b_0
  clear z_l
  have z_l := World.block_lt_of_cell? _ _ c_l_0
  have hB4 := below_two hB3 hs4
  clear hB3 hs4
  replace HROW := Lib.hid (HROW.out.later hb4)
  have HROW2 := Lib.hid hrow2
  obtain ⟨g', cap', rfl, hc'⟩ := hrow2
  clear hc'
  go_wp2
  go_loopw [11] (fun a wr => CntRel k w4 a wr) (fun a _ => ((k : Int) - intOf a).toNat)
  case atStart => exact ⟨0, rfl, by omega, Below.refl _ _⟩
  case round =>
    obtain ⟨i, rfl, hi, hBr⟩ := hrel
    by_cases hlt : i < k
    · obtain ⟨_, _, e1, hc1⟩ := HROW.out.later hBr
      obtain ⟨_, _, e2, hc2⟩ := HROW2.out.later hBr
      cases e1
      cases e2
      obtain ⟨t0, t1, t2, t3⟩ := hc2 i hlt
      obtain ⟨s0, s1, s2, s3⟩ := hc1 i hlt
      clear hc1 hc2
      generalize (q i).1 = v0 at *
      generalize (q i).2.1 = v1 at *
      generalize (q i).2.2.1 = v2 at *
      generalize (q i).2.2.2 = v3 at *
      have hz1 : (((i : Nat) : Int)).toNat = i := by omega
      have hz2 : ((i : Nat) : Int) < ((k : Nat) : Int) := by omega
      have hz3 : (0 : Int) ≤ ((i : Nat) : Int) := by omega
      clear c_a_0 c_a_1 c_a_2 c_a_3 c_b_0 c_b_1 c_b_2 c_b_3 c_l_0 c_l_1
      go_wp2_with fail
      go_quiet (fail)
      go_wp2
      go_roundw
      case rel => exact ⟨i + 1, by go_num, by omega, below_two hBr (below_drewN (Below.refl _ _) _)⟩
      case measure => simp [intOf]; omega
    · obtain rfl : i = k := by omega
      replace hB4 := below_two hB4 hBr
      go_wp2
      go_ret
      exact ⟨rfl, hB4⟩

theorem spK_le (x y : Int) : Val.spK x y ≤ 4 := by
  unfold Val.spK
  split
  · unfold Val.kI
    rcases Val.fst_spec (Val.unI x y) 4 with ⟨e, _⟩ | ⟨e, _⟩ <;> omega
  · exact Nat.le_refl _
theorem spk_fills {x y : Int} (h : Val.spK x y < 4) : ∃ k, Val.Fills (Val.uI x y (Val.spK x y)) k ∧ k ≤ 1000000 := by
  obtain ⟨u1, u2, _⟩ := sp_units h rfl
  obtain ⟨k, hk⟩ := fills_exists 7168 (Val.uI x y (Val.spK x y)) (by omega) (by omega)
  have := (Val.rm_nonneg (u := Val.uI x y (Val.spK x y)) (by omega) hk.2).2
  rw [hk.1] at this
  exact ⟨k, hk, by omega⟩
theorem lawSplit_any (x y : Int) (w : World) (hR : Vars w) (ix : Rat.I64 x) (iy : Rat.I64 y) :
    Calls Tryz.prog 21 #[rt x y] w fun ed w' => ed = .returned (.bool true) ∧ Below w.heap.size w w' := by
  obtain ⟨f0, f1, f2, f3, o, hf⟩ : ∃ f0 f1 f2 f3 o, fv (Val.fnd x y) = .tuple #[vl f0 f1 f2 f3, .bool o] := by
    unfold fv
    split
    · exact ⟨_, _, _, _, _, rfl⟩
    · exact ⟨_, _, _, _, _, rfl⟩
  have HF := Lib.hid (fun w (hR : Vars w) => by have := find_any x y w hR; rw [hf] at this; exact this)
  have HG := Lib.hid (fun w => by have := vrefFind_any x y w; rw [hf] at this; exact this)
  by_cases h4 : Val.spK x y = 4
  · refine lawSplit_no x y w hR f0 f1 f2 f3 o HF HG (Lib.hid fun w hR => (split_any x y w hR).mono ?_) (Lib.hid fun w => (refSplit_any x y w ix iy).mono ?_)
    all_goals
      rintro ed w' ⟨⟨v, er, rfl, ⟨_, rfl, rfl⟩ | ⟨i, k, hi, h, _⟩⟩, hb⟩
      · exact ⟨rfl, hb⟩
      · omega
  · have hlt : Val.spK x y < 4 := by
      have : Val.spK x y ≤ 4 := spK_le x y
      omega
    obtain ⟨k, hk, hk2⟩ := spk_fills hlt
    refine lawSplit_some x y w hR f0 f1 f2 f3 o HF HG (prt (Val.uI x y (Val.spK x y)) (Val.kN (Val.spK x y)) (Val.kE (Val.spK x y))) k hk2 (Lib.hid fun w hR => (split_any x y w hR).mono ?_) (Lib.hid fun w => (refSplit_any x y w ix iy).mono ?_)
    all_goals
      rintro ed w' ⟨⟨v, er, rfl, ⟨h, _⟩ | ⟨i, k', hi, h, rfl, hf, _, hr⟩⟩, hb⟩
      · omega
      · subst h
        obtain rfl := hf.unique hk
        exact ⟨⟨v, rfl, hr⟩, hb⟩
end Go.Proofs.YtejiifkenanodaaGreatDoor
