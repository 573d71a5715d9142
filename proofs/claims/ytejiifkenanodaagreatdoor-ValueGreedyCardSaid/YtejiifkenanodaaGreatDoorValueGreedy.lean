/-
  ValueGreedy answers true.
-/
import Derived.Test.YtejiifkenanodaaGreatDoorValSpl
import Derived.Test.YtejiifkenanodaaGreatDoorValueHalves
namespace Go.Proofs.YtejiifkenanodaaGreatDoor
open Go.RowKit

set_option maxRecDepth 100000 in
set_option maxHeartbeats 4000000 in
theorem valueGreedy_one (a : Int) (w : World) (hR : Vars w) (ia : Rat.I64 a) (p U xN xD : Int) (HP : Hid (pickS a 4096 = p)) (hU : IntKind.i64.wrap (1 + p) = U) (iU : Rat.I64 U) (i64 : Rat.I64 64) (HO : Hid (Rat.ofN U 64 = xN ∧ Rat.ofD U 64 = xD ∧ Rat.ofE U 64 = 0)) (f : Nat → Quad) (k : Nat) (hk1 : 1 ≤ k) (hk2 : k ≤ 1000000) (HS : Hid (∀ w, Vars w → Calls Tryz.prog 30 #[rt xN xD] w fun ed w' => (∃ v, ed = .returned (.tuple #[v, .int .i64 0]) ∧ Row w' v f k) ∧ Below w.heap.size w w')) (q0 q1 q2 q3 fN fD : Int) (HF : Hid (f 0 = (q0, q1, q2, q3))) (HL : Hid (∀ w, Vars w → Calls Tryz.prog 28 #[vl q0 q1 q2 q3] w fun ed w' => ed = .returned (rt fN fD) ∧ Below w.heap.size w w')) (yN yD mN mD c1 c2 : Nat → Nat → Int) (HB : Hid (∀ b d : Nat, b < 7 → d < 3 → (∀ w, Vars w → Calls Tryz.prog 28 #[vl b d 0 0] w fun ed w' => ed = .returned (rt (yN b d) (yD b d)) ∧ Below w.heap.size w w') ∧ (∃ er, ∀ w, Calls Tryz.prog 25 #[rt (yN b d) (yD b d), rt 64 1] w fun ed w' => ed = .returned (rv (mN b d) (mD b d) er) ∧ Below w.heap.size w w') ∧ (∀ w, Calls Tryz.prog 31 #[rt (yN b d) (yD b d), rt xN xD] w fun ed w' => ed = .returned (.int .i64 (c1 b d)) ∧ Below w.heap.size w w') ∧ (∀ w, Calls Tryz.prog 31 #[rt (yN b d) (yD b d), rt fN fD] w fun ed w' => ed = .returned (.int .i64 (c2 b d)) ∧ Below w.heap.size w w') ∧ (mD b d = 1 → c1 b d ≤ 0 → c2 b d ≤ 0))) (lN lD : Int) (HU : Hid (∀ w, Calls Tryz.prog 32 #[rt xN xD, rt fN fD] w fun ed w' => ed = .returned (rv lN lD 0) ∧ Below w.heap.size w w')) (hl : lN = 0) (hk : k = 1) :
    Calls Tryz.prog 8 #[.int .i64 a] w fun ed w' => ed = .returned (.bool true) ∧ Below w.heap.size w w' := by
  have hgR := guardR
  have hgV := guardV
  have heR := eql_rt
  have heV := eql_vl
  have hnR := neq_rt
  have hnV := neq_vl
  have hsR := eqR_self
  have hsV := eqV_self
  have hk0 : ((k : Int) == 0) = false := by simp; omega
  subst hl
  have hB0 : Below w.heap.size w w := Below.refl _ _
  go_enter Tryz.func8, Tryz.ntmps8
  go_wp2_with fail
  have hR' := hR.below hB0
  refine (examples_any _ hR').mono ?_
  rintro e w1 ⟨rfl, hb1⟩
  clear hR'
  have hs1 := hb1
  have hB1 := below_two hB0 hs1
  clear hB0 hs1
  go_wp2_with fail
  refine (pick_any a 4096 _ ia (by decide) (by decide)).mono ?_
  rintro e wx ⟨rfl, rfl⟩
  rw [HP.out]
  go_wp2_with fail
  have hR' := hR.below hB1
  refine (of_any _ _ _ iU i64).mono ?_
  rintro e w2 ⟨rfl, hb2⟩
  clear hR'
  have hs2 := hb2
  have hB2 := below_two hB1 hs2
  clear hB1 hs2
  rw [HO.out.1, HO.out.2.1, HO.out.2.2]
  go_wp2_with fail
  have hR' := hR.below (hB2.alloc hB2.size (.cells #[.int .i64 xN, .int .i64 xD] 25))
  refine (HS.out _ hR').mono ?_
  rintro e w3 ⟨⟨sv, rfl, hrow⟩, hb3⟩
  clear hR'
  have hs3 : Below w2.heap.size w2 w3 := Below.trans (by repeat (first | exact Below.refl _ _ | refine Below.alloc ?_ (by simp <;> omega) _)) (hb3.mono (by simp <;> omega))
  have c_x_0 : w3.cell? ⟨w2.heap.size, 0, none⟩ = some (.int .i64 xN) := (hb3.cell (by simp <;> omega)).trans (by go_simp)
  have c_x_1 : w3.cell? ⟨w2.heap.size, 1, none⟩ = some (.int .i64 xD) := (hb3.cell (by simp <;> omega)).trans (by go_simp)
  have z_x := World.block_lt_of_cell? _ _ c_x_0
  have hB3 := below_two hB2 hs3
  clear hB2 hs3 hb3
  have HROW := Lib.hid hrow
  obtain ⟨g, cap, rfl, hc⟩ := hrow
  obtain ⟨s0, s1, s2, s3⟩ := hc 0 (by omega)
  rw [HF.out] at s0 s1 s2 s3
  simp only [Nat.zero_mul, Nat.zero_add] at s0 s1 s2 s3
  clear hc
  go_wp2_with fail
  have hR' := hR.below hB3
  refine (HL.out _ hR').mono ?_
  rintro e w4 ⟨rfl, hb4⟩
  clear hR'
  have hs4 := hb4
  replace c_x_0 := cell_later hs4 c_x_0
  replace c_x_1 := cell_later hs4 c_x_1
  clear z_x
  have z_x := World.block_lt_of_cell? _ _ c_x_0
  have hB4 := below_two hB3 hs4
  clear hB3 hs4
  replace HROW := Lib.hid (HROW.out.later hb4)
  clear s0 s1 s2 s3
  go_wp2_with fail
  have hs5 : Below w4.heap.size w4 (w4.alloc (.cells #[.int .i64 fN, .int .i64 fD] 25)) := by repeat (first | exact Below.refl _ _ | refine Below.alloc ?_ (by simp <;> omega) _)
  replace c_x_0 := cell_later hs5 c_x_0
  replace c_x_1 := cell_later hs5 c_x_1
  have c_f_0 : (w4.alloc (.cells #[.int .i64 fN, .int .i64 fD] 25)).cell? ⟨w4.heap.size, 0, none⟩ = some (.int .i64 fN) := by go_simp
  have c_f_1 : (w4.alloc (.cells #[.int .i64 fN, .int .i64 fD] 25)).cell? ⟨w4.heap.size, 1, none⟩ = some (.int .i64 fD) := by go_simp
  have hB5 := below_two hB4 hs5
  clear hB4 hs5
  have y5_x := z_x
  replace HROW := Lib.hid (HROW.out.later ((Below.refl w4.heap.size w4).alloc (Nat.le_refl _) (.cells #[.int .i64 fN, .int .i64 fD] 25)))
  generalize (w4.alloc (.cells #[.int .i64 fN, .int .i64 fD] 25)) = w5 at *
  have z_f := World.block_lt_of_cell? _ _ c_f_0
  clear z_x
  have z_x := World.block_lt_of_cell? _ _ c_x_0
  simp only at z_x z_f
  go_loopw [9] (fun a wr => CntRel 7 w5 a wr) (fun a _ => (7 - intOf a).toNat)
  case atStart => exact ⟨0, rfl, by omega, Below.refl _ _⟩
  case round =>
    obtain ⟨b, rfl, hb7, hBr⟩ := hrel
    by_cases hb : b < 7
    · go_wp2_with fail
      rw [show decide ((b : Int) ≤ 6) = true from decide_eq_true (by omega)]
      go_loopw [10] (fun a wr => CntRel 3 w5 a wr) (fun a _ => (3 - intOf a).toNat)
      case atStart => exact ⟨0, rfl, by omega, hBr⟩
      case round =>
        clear hBr
        obtain ⟨d, rfl, hd3, hBr⟩ := hrel
        by_cases hd : d < 3
        · obtain ⟨HB1, ⟨er, HB2⟩, HB3, HB4, HB5⟩ := HB.out b d hb hd
          have HB1' := Lib.hid HB1
          have HB2' := Lib.hid HB2
          have HB3' := Lib.hid HB3
          have HB4' := Lib.hid HB4
          have HB5' := Lib.hid HB5
          clear HB1 HB2 HB3 HB4 HB5
          generalize yN b d = yn at *
          generalize yD b d = yd at *
          generalize mN b d = mn at *
          generalize mD b d = md at *
          generalize c1 b d = e1 at *
          generalize c2 b d = e2 at *
          have x0 := cell_later hBr c_x_0
          have x1 := cell_later hBr c_x_1
          have f0 := cell_later hBr c_f_0
          have f1 := cell_later hBr c_f_1
          go_wp2_with fail
          refine (HB1'.out _ (hR.below (below_two hB5 hBr))).mono ?_
          rintro ed w6 ⟨rfl, hb6⟩
          replace x0 := cell_later hb6 x0
          replace x1 := cell_later hb6 x1
          replace f0 := cell_later hb6 f0
          replace f1 := cell_later hb6 f1
          replace hBr := below_two hBr hb6
          clear hb6
          go_wp2_with fail
          have y0 : (w6.alloc (.cells #[.int .i64 yn, .int .i64 yd] 25)).cell? ⟨w6.heap.size, 0, none⟩ = some (.int .i64 yn) := by go_simp
          have y1 : (w6.alloc (.cells #[.int .i64 yn, .int .i64 yd] 25)).cell? ⟨w6.heap.size, 1, none⟩ = some (.int .i64 yd) := by go_simp
          replace x0 := alloc_cell (o := .cells #[.int .i64 yn, .int .i64 yd] 25) x0
          replace x1 := alloc_cell (o := .cells #[.int .i64 yn, .int .i64 yd] 25) x1
          replace f0 := alloc_cell (o := .cells #[.int .i64 yn, .int .i64 yd] 25) f0
          replace f1 := alloc_cell (o := .cells #[.int .i64 yn, .int .i64 yd] 25) f1
          replace hBr := alloc_below (o := .cells #[.int .i64 yn, .int .i64 yd] 25) hBr
          generalize w6.alloc (.cells #[.int .i64 yn, .int .i64 yd] 25) = w7 at *
          refine (HB2'.out _).mono ?_
          rintro ed w8 ⟨rfl, hb8⟩
          replace x0 := cell_later hb8 x0
          replace x1 := cell_later hb8 x1
          replace f0 := cell_later hb8 f0
          replace f1 := cell_later hb8 f1
          replace y0 := cell_later hb8 y0
          replace y1 := cell_later hb8 y1
          replace hBr := below_two hBr hb8
          clear hb8
          have zy := World.block_lt_of_cell? _ _ y0
          have zx := World.block_lt_of_cell? _ _ x0
          have zf := World.block_lt_of_cell? _ _ f0
          have HBR := Lib.hid (alloc_below (o := .cells #[.int .i64 mn, .int .i64 md] 25) hBr)
          have HX := Lib.hid (And.intro (alloc_cell (o := .cells #[.int .i64 mn, .int .i64 md] 25) y0) (And.intro (alloc_cell (o := .cells #[.int .i64 mn, .int .i64 md] 25) y1) (And.intro (alloc_cell (o := .cells #[.int .i64 mn, .int .i64 md] 25) f0) (alloc_cell (o := .cells #[.int .i64 mn, .int .i64 md] 25) f1))))
          clear hBr
          by_cases hmd : md = 1
          · have HB6 : Hid (e1 ≤ 0 → e2 ≤ 0) := Lib.hid (HB5'.out hmd)
            clear HB5'
            subst hmd
            go_wp2_with fail
            refine (HB3'.out _).mono ?_
            rintro ed w9 ⟨rfl, hb9⟩
            obtain ⟨y0', y1', f0', f1'⟩ := HX.out
            replace y0' := cell_later hb9 y0'
            replace y1' := cell_later hb9 y1'
            replace f0' := cell_later hb9 f0'
            replace f1' := cell_later hb9 f1'
            replace HBR := Lib.hid (below_two HBR.out hb9)
            clear hb9 y0 y1 x0 x1 f0 f1
            by_cases he1 : e1 ≤ 0
            · have he2 : ¬ 0 < e2 := by have := HB6.out he1; omega
              go_wp2_with fail
              refine (HB4'.out _).mono ?_
              rintro ed w10 ⟨rfl, hb10⟩
              replace HBR := Lib.hid (below_two HBR.out hb10)
              clear hb10 y0' y1' f0' f1'
              go_wp2
              go_roundw
              case rel => exact ⟨d + 1, by go_num, by omega, HBR.out⟩
              case measure => simp [intOf]; omega
            · go_wp2
              go_roundw
              case rel => exact ⟨d + 1, by go_num, by omega, HBR.out⟩
              case measure => simp [intOf]; omega
          · have hmd2 : (md == 1) = false := by simpa using hmd
            go_wp2
            go_roundw
            case rel => exact ⟨d + 1, by go_num, by omega, HBR.out⟩
            case measure => simp [intOf]; omega
        · obtain rfl : d = 3 := by omega
          go_wp2
          go_roundw
          case rel => exact ⟨b + 1, by go_num, by omega, hBr⟩
          case measure => simp [intOf]; omega
    · obtain rfl : b = 7 := by omega
      have x0 := cell_later hBr c_x_0
      have x1 := cell_later hBr c_x_1
      have f0 := cell_later hBr c_f_0
      have f1 := cell_later hBr c_f_1
      replace HROW := Lib.hid (HROW.out.later hBr)
      replace hB5 := below_two hB5 hBr
      clear hBr c_x_0 c_x_1 c_f_0 c_f_1
      go_wp2_with fail
      refine (HU.out _).mono ?_
      rintro ed w6 ⟨rfl, hb6⟩
      replace HROW := Lib.hid (HROW.out.later hb6)
      replace hB5 := below_two hB5 hb6
      clear hb6 x0 x1 f0 f1
      subst hk
      have hB6 := alloc_below (o := .cells #[.int .i64 0, .int .i64 lD] 25) hB5
      go_wp2
      go_ret
      exact ⟨rfl, hB6⟩

set_option maxRecDepth 100000 in
set_option maxHeartbeats 4000000 in
theorem valueGreedy_more (a : Int) (w : World) (hR : Vars w) (ia : Rat.I64 a) (p U xN xD : Int) (HP : Hid (pickS a 4096 = p)) (hU : IntKind.i64.wrap (1 + p) = U) (iU : Rat.I64 U) (i64 : Rat.I64 64) (HO : Hid (Rat.ofN U 64 = xN ∧ Rat.ofD U 64 = xD ∧ Rat.ofE U 64 = 0)) (f : Nat → Quad) (k : Nat) (hk1 : 1 ≤ k) (hk2 : k ≤ 1000000) (HS : Hid (∀ w, Vars w → Calls Tryz.prog 30 #[rt xN xD] w fun ed w' => (∃ v, ed = .returned (.tuple #[v, .int .i64 0]) ∧ Row w' v f k) ∧ Below w.heap.size w w')) (q0 q1 q2 q3 fN fD : Int) (HF : Hid (f 0 = (q0, q1, q2, q3))) (HL : Hid (∀ w, Vars w → Calls Tryz.prog 28 #[vl q0 q1 q2 q3] w fun ed w' => ed = .returned (rt fN fD) ∧ Below w.heap.size w w')) (yN yD mN mD c1 c2 : Nat → Nat → Int) (HB : Hid (∀ b d : Nat, b < 7 → d < 3 → (∀ w, Vars w → Calls Tryz.prog 28 #[vl b d 0 0] w fun ed w' => ed = .returned (rt (yN b d) (yD b d)) ∧ Below w.heap.size w w') ∧ (∃ er, ∀ w, Calls Tryz.prog 25 #[rt (yN b d) (yD b d), rt 64 1] w fun ed w' => ed = .returned (rv (mN b d) (mD b d) er) ∧ Below w.heap.size w w') ∧ (∀ w, Calls Tryz.prog 31 #[rt (yN b d) (yD b d), rt xN xD] w fun ed w' => ed = .returned (.int .i64 (c1 b d)) ∧ Below w.heap.size w w') ∧ (∀ w, Calls Tryz.prog 31 #[rt (yN b d) (yD b d), rt fN fD] w fun ed w' => ed = .returned (.int .i64 (c2 b d)) ∧ Below w.heap.size w w') ∧ (mD b d = 1 → c1 b d ≤ 0 → c2 b d ≤ 0))) (lN lD : Int) (HU : Hid (∀ w, Calls Tryz.prog 32 #[rt xN xD, rt fN fD] w fun ed w' => ed = .returned (rv lN lD 0) ∧ Below w.heap.size w w')) (hl : (lN == 0) = false) (f' : Nat → Quad) (k' : Nat) (hk : k = k' + 1) (HS2 : Hid (∀ w, Vars w → Calls Tryz.prog 30 #[rt lN lD] w fun ed w' => (∃ v, ed = .returned (.tuple #[v, .int .i64 0]) ∧ Row w' v f' k') ∧ Below w.heap.size w w')) (HE : Hid (∀ i, i < k' → f' i = f (i + 1))) :
    Calls Tryz.prog 8 #[.int .i64 a] w fun ed w' => ed = .returned (.bool true) ∧ Below w.heap.size w w' := by
  have hgR := guardR
  have hgV := guardV
  have heR := eql_rt
  have heV := eql_vl
  have hnR := neq_rt
  have hnV := neq_vl
  have hsR := eqR_self
  have hsV := eqV_self
  have hk0 : ((k : Int) == 0) = false := by simp; omega
  have hB0 : Below w.heap.size w w := Below.refl _ _
  go_enter Tryz.func8, Tryz.ntmps8
  go_wp2_with fail
  have hR' := hR.below hB0
  refine (examples_any _ hR').mono ?_
  rintro e w1 ⟨rfl, hb1⟩
  clear hR'
  have hs1 := hb1
  have hB1 := below_two hB0 hs1
  clear hB0 hs1
  go_wp2_with fail
  refine (pick_any a 4096 _ ia (by decide) (by decide)).mono ?_
  rintro e wx ⟨rfl, rfl⟩
  rw [HP.out]
  go_wp2_with fail
  have hR' := hR.below hB1
  refine (of_any _ _ _ iU i64).mono ?_
  rintro e w2 ⟨rfl, hb2⟩
  clear hR'
  have hs2 := hb2
  have hB2 := below_two hB1 hs2
  clear hB1 hs2
  rw [HO.out.1, HO.out.2.1, HO.out.2.2]
  go_wp2_with fail
  have hR' := hR.below (hB2.alloc hB2.size (.cells #[.int .i64 xN, .int .i64 xD] 25))
  refine (HS.out _ hR').mono ?_
  rintro e w3 ⟨⟨sv, rfl, hrow⟩, hb3⟩
  clear hR'
  have hs3 : Below w2.heap.size w2 w3 := Below.trans (by repeat (first | exact Below.refl _ _ | refine Below.alloc ?_ (by simp <;> omega) _)) (hb3.mono (by simp <;> omega))
  have c_x_0 : w3.cell? ⟨w2.heap.size, 0, none⟩ = some (.int .i64 xN) := (hb3.cell (by simp <;> omega)).trans (by go_simp)
  have c_x_1 : w3.cell? ⟨w2.heap.size, 1, none⟩ = some (.int .i64 xD) := (hb3.cell (by simp <;> omega)).trans (by go_simp)
  have z_x := World.block_lt_of_cell? _ _ c_x_0
  have hB3 := below_two hB2 hs3
  clear hB2 hs3 hb3
  have HROW := Lib.hid hrow
  obtain ⟨g, cap, rfl, hc⟩ := hrow
  obtain ⟨s0, s1, s2, s3⟩ := hc 0 (by omega)
  rw [HF.out] at s0 s1 s2 s3
  simp only [Nat.zero_mul, Nat.zero_add] at s0 s1 s2 s3
  clear hc
  go_wp2_with fail
  have hR' := hR.below hB3
  refine (HL.out _ hR').mono ?_
  rintro e w4 ⟨rfl, hb4⟩
  clear hR'
  have hs4 := hb4
  replace c_x_0 := cell_later hs4 c_x_0
  replace c_x_1 := cell_later hs4 c_x_1
  clear z_x
  have z_x := World.block_lt_of_cell? _ _ c_x_0
  have hB4 := below_two hB3 hs4
  clear hB3 hs4
  replace HROW := Lib.hid (HROW.out.later hb4)
  clear s0 s1 s2 s3
  go_wp2_with fail
  have hs5 : Below w4.heap.size w4 (w4.alloc (.cells #[.int .i64 fN, .int .i64 fD] 25)) := by repeat (first | exact Below.refl _ _ | refine Below.alloc ?_ (by simp <;> omega) _)
  replace c_x_0 := cell_later hs5 c_x_0
  replace c_x_1 := cell_later hs5 c_x_1
  have c_f_0 : (w4.alloc (.cells #[.int .i64 fN, .int .i64 fD] 25)).cell? ⟨w4.heap.size, 0, none⟩ = some (.int .i64 fN) := by go_simp
  have c_f_1 : (w4.alloc (.cells #[.int .i64 fN, .int .i64 fD] 25)).cell? ⟨w4.heap.size, 1, none⟩ = some (.int .i64 fD) := by go_simp
  have hB5 := below_two hB4 hs5
  clear hB4 hs5
  have y5_x := z_x
  replace HROW := Lib.hid (HROW.out.later ((Below.refl w4.heap.size w4).alloc (Nat.le_refl _) (.cells #[.int .i64 fN, .int .i64 fD] 25)))
  generalize (w4.alloc (.cells #[.int .i64 fN, .int .i64 fD] 25)) = w5 at *
  have z_f := World.block_lt_of_cell? _ _ c_f_0
  clear z_x
  have z_x := World.block_lt_of_cell? _ _ c_x_0
  simp only at z_x z_f
  go_loopw [9] (fun a wr => CntRel 7 w5 a wr) (fun a _ => (7 - intOf a).toNat)
  case atStart => exact ⟨0, rfl, by omega, Below.refl _ _⟩
  case round =>
    obtain ⟨b, rfl, hb7, hBr⟩ := hrel
    by_cases hb : b < 7
    · go_wp2_with fail
      rw [show decide ((b : Int) ≤ 6) = true from decide_eq_true (by omega)]
      go_loopw [10] (fun a wr => CntRel 3 w5 a wr) (fun a _ => (3 - intOf a).toNat)
      case atStart => exact ⟨0, rfl, by omega, hBr⟩
      case round =>
        clear hBr
        obtain ⟨d, rfl, hd3, hBr⟩ := hrel
        by_cases hd : d < 3
        · obtain ⟨HB1, ⟨er, HB2⟩, HB3, HB4, HB5⟩ := HB.out b d hb hd
          have HB1' := Lib.hid HB1
          have HB2' := Lib.hid HB2
          have HB3' := Lib.hid HB3
          have HB4' := Lib.hid HB4
          have HB5' := Lib.hid HB5
          clear HB1 HB2 HB3 HB4 HB5
          generalize yN b d = yn at *
          generalize yD b d = yd at *
          generalize mN b d = mn at *
          generalize mD b d = md at *
          generalize c1 b d = e1 at *
          generalize c2 b d = e2 at *
          have x0 := cell_later hBr c_x_0
          have x1 := cell_later hBr c_x_1
          have f0 := cell_later hBr c_f_0
          have f1 := cell_later hBr c_f_1
          go_wp2_with fail
          refine (HB1'.out _ (hR.below (below_two hB5 hBr))).mono ?_
          rintro ed w6 ⟨rfl, hb6⟩
          replace x0 := cell_later hb6 x0
          replace x1 := cell_later hb6 x1
          replace f0 := cell_later hb6 f0
          replace f1 := cell_later hb6 f1
          replace hBr := below_two hBr hb6
          clear hb6
          go_wp2_with fail
          have y0 : (w6.alloc (.cells #[.int .i64 yn, .int .i64 yd] 25)).cell? ⟨w6.heap.size, 0, none⟩ = some (.int .i64 yn) := by go_simp
          have y1 : (w6.alloc (.cells #[.int .i64 yn, .int .i64 yd] 25)).cell? ⟨w6.heap.size, 1, none⟩ = some (.int .i64 yd) := by go_simp
          replace x0 := alloc_cell (o := .cells #[.int .i64 yn, .int .i64 yd] 25) x0
          replace x1 := alloc_cell (o := .cells #[.int .i64 yn, .int .i64 yd] 25) x1
          replace f0 := alloc_cell (o := .cells #[.int .i64 yn, .int .i64 yd] 25) f0
          replace f1 := alloc_cell (o := .cells #[.int .i64 yn, .int .i64 yd] 25) f1
          replace hBr := alloc_below (o := .cells #[.int .i64 yn, .int .i64 yd] 25) hBr
          generalize w6.alloc (.cells #[.int .i64 yn, .int .i64 yd] 25) = w7 at *
          refine (HB2'.out _).mono ?_
          rintro ed w8 ⟨rfl, hb8⟩
          replace x0 := cell_later hb8 x0
          replace x1 := cell_later hb8 x1
          replace f0 := cell_later hb8 f0
          replace f1 := cell_later hb8 f1
          replace y0 := cell_later hb8 y0
          replace y1 := cell_later hb8 y1
          replace hBr := below_two hBr hb8
          clear hb8
          have zy := World.block_lt_of_cell? _ _ y0
          have zx := World.block_lt_of_cell? _ _ x0
          have zf := World.block_lt_of_cell? _ _ f0
          have HBR := Lib.hid (alloc_below (o := .cells #[.int .i64 mn, .int .i64 md] 25) hBr)
          have HX := Lib.hid (And.intro (alloc_cell (o := .cells #[.int .i64 mn, .int .i64 md] 25) y0) (And.intro (alloc_cell (o := .cells #[.int .i64 mn, .int .i64 md] 25) y1) (And.intro (alloc_cell (o := .cells #[.int .i64 mn, .int .i64 md] 25) f0) (alloc_cell (o := .cells #[.int .i64 mn, .int .i64 md] 25) f1))))
          clear hBr
          by_cases hmd : md = 1
          · have HB6 : Hid (e1 ≤ 0 → e2 ≤ 0) := Lib.hid (HB5'.out hmd)
            clear HB5'
            subst hmd
            go_wp2_with fail
            refine (HB3'.out _).mono ?_
            rintro ed w9 ⟨rfl, hb9⟩
            obtain ⟨y0', y1', f0', f1'⟩ := HX.out
            replace y0' := cell_later hb9 y0'
            replace y1' := cell_later hb9 y1'
            replace f0' := cell_later hb9 f0'
            replace f1' := cell_later hb9 f1'
            replace HBR := Lib.hid (below_two HBR.out hb9)
            clear hb9 y0 y1 x0 x1 f0 f1
            by_cases he1 : e1 ≤ 0
            · have he2 : ¬ 0 < e2 := by have := HB6.out he1; omega
              go_wp2_with fail
              refine (HB4'.out _).mono ?_
              rintro ed w10 ⟨rfl, hb10⟩
              replace HBR := Lib.hid (below_two HBR.out hb10)
              clear hb10 y0' y1' f0' f1'
              go_wp2
              go_roundw
              case rel => exact ⟨d + 1, by go_num, by omega, HBR.out⟩
              case measure => simp [intOf]; omega
            · go_wp2
              go_roundw
              case rel => exact ⟨d + 1, by go_num, by omega, HBR.out⟩
              case measure => simp [intOf]; omega
          · have hmd2 : (md == 1) = false := by simpa using hmd
            go_wp2
            go_roundw
            case rel => exact ⟨d + 1, by go_num, by omega, HBR.out⟩
            case measure => simp [intOf]; omega
        · obtain rfl : d = 3 := by omega
          go_wp2
          go_roundw
          case rel => exact ⟨b + 1, by go_num, by omega, hBr⟩
          case measure => simp [intOf]; omega
    · obtain rfl : b = 7 := by omega
      have x0 := cell_later hBr c_x_0
      have x1 := cell_later hBr c_x_1
      have f0 := cell_later hBr c_f_0
      have f1 := cell_later hBr c_f_1
      replace HROW := Lib.hid (HROW.out.later hBr)
      replace hB5 := below_two hB5 hBr
      clear hBr c_x_0 c_x_1 c_f_0 c_f_1
      go_wp2_with fail
      refine (HU.out _).mono ?_
      rintro ed w6 ⟨rfl, hb6⟩
      replace HROW := Lib.hid (HROW.out.later hb6)
      replace hB5 := below_two hB5 hb6
      clear hb6 x0 x1 f0 f1
      subst hk
      go_wp2_with fail
      have hB6 := alloc_below (o := .cells #[.int .i64 lN, .int .i64 lD] 25) hB5
      replace HROW := Lib.hid (HROW.out.later ((Below.refl w6.heap.size w6).alloc (Nat.le_refl _) (.cells #[.int .i64 lN, .int .i64 lD] 25)))
      clear hB5
      generalize w6.alloc (.cells #[.int .i64 lN, .int .i64 lD] 25) = w7 at *
      refine (HS2.out _ (hR.below hB6)).mono ?_
      rintro ed w8 ⟨⟨tv, rfl, hrow2⟩, hb8⟩
      replace HROW := Lib.hid (HROW.out.later hb8)
      replace hB6 := below_two hB6 hb8
      have HROW2 := Lib.hid hrow2
      obtain ⟨g', cap', rfl, hc'⟩ := hrow2
      clear hb8 hc'
      go_wp2
      go_loopw [18] (fun a wr => CntRel k' w8 a wr) (fun a _ => ((k' : Int) - intOf a).toNat)
      case atStart => exact ⟨0, rfl, by omega, Below.refl _ _⟩
      case round =>
        obtain ⟨i, rfl, hi, hBr⟩ := hrel
        by_cases hlt : i < k'
        · obtain ⟨_, _, e1, hc1⟩ := HROW.out.later hBr
          obtain ⟨_, _, e2, hc2⟩ := HROW2.out.later hBr
          cases e1
          cases e2
          obtain ⟨t0, t1, t2, t3⟩ := hc2 i hlt
          obtain ⟨s0, s1, s2, s3⟩ := hc1 (i + 1) (by omega)
          rw [HE.out i hlt] at t0 t1 t2 t3
          clear hc1 hc2
          generalize (f (i + 1)).1 = v0 at *
          generalize (f (i + 1)).2.1 = v1 at *
          generalize (f (i + 1)).2.2.1 = v2 at *
          generalize (f (i + 1)).2.2.2 = v3 at *
          have hw1 : IntKind.i64.wrap ((i : Int) + 1) = ((i + 1 : Nat) : Int) := IntWalk.i64_in _ (by omega)
          have hz1 : (((i + 1 : Nat) : Int)).toNat = i + 1 := by omega
          have hz2 : ((i + 1 : Nat) : Int) < ((k' + 1 : Nat) : Int) := by omega
          have hz3 : (0 : Int) ≤ ((i + 1 : Nat) : Int) := by omega
          go_wp2_with fail
          go_quiet (fail)
          go_wp2
          go_roundw
          case rel => exact ⟨i + 1, by go_num, by omega, below_two hBr (below_drewN (Below.refl _ _) _)⟩
          case measure => simp [intOf]; omega
        · obtain rfl : i = k' := by omega
          replace hB6 := below_two hB6 hBr
          go_wp2
          go_ret
          exact ⟨rfl, hB6⟩
end Go.Proofs.YtejiifkenanodaaGreatDoor
