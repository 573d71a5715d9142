/-
  The contract of the reference's Split.
-/
import Derived.Test.YtejiifkenanodaaGreatDoorValO
import Derived.Test.YtejiifkenanodaaGreatDoorValSplF
import Derived.Test.YtejiifkenanodaaGreatDoorRatR1
import Derived.OwnWalk
namespace Go.Proofs.YtejiifkenanodaaGreatDoor
open Go.RowKit

set_option maxRecDepth 100000 in
set_option maxHeartbeats 4000000 in
theorem vrefSplit_no1 (x y : Int) (w : World) (ix : Rat.I64 x) (iy : Rat.I64 y) (h : Rat.right x y = false) :
    Calls Tryz.prog 48 #[rt x y] w fun ed w' => ed = .returned (.tuple #[.slice none 0 0, .int .i64 41]) ∧ Below w.heap.size w w' := by
  have hB0 : Below w.heap.size w w := Below.refl _ _
  go_enter Tryz.func48, Tryz.ntmps48
  go_wp2_with fail
  refine (refRight_any x y _ ix iy).mono ?_
  rintro e w1 ⟨rfl, hb1⟩
  have hs1 : Below w.heap.size w w1 := Below.trans (by repeat (first | exact Below.refl _ _ | refine Below.alloc ?_ (by simp <;> omega) _)) (hb1.mono (by simp <;> omega))
  have c_l_0 : w1.cell? ⟨w.heap.size, 0, none⟩ = some (.int .i64 x) := (hb1.cell (by simp <;> omega)).trans (by go_simp)
  have c_l_1 : w1.cell? ⟨w.heap.size, 1, none⟩ = some (.int .i64 y) := (hb1.cell (by simp <;> omega)).trans (by go_simp)
  have z_l := World.block_lt_of_cell? _ _ c_l_0
  have hB1 := below_two hB0 hs1
  clear hB0 hs1 hb1
  rw [h]
  go_wp2
  go_ret2
  exact ⟨rfl, hB1⟩

set_option maxRecDepth 100000 in
set_option maxHeartbeats 4000000 in
theorem vrefSplit_no2 (x y : Int) (w : World) (ix : Rat.I64 x) (iy : Rat.I64 y) (h : Rat.right x y = true) (h0 : x ≤ 0) :
    Calls Tryz.prog 48 #[rt x y] w fun ed w' => ed = .returned (.tuple #[.slice none 0 0, .int .i64 41]) ∧ Below w.heap.size w w' := by
  have hB0 : Below w.heap.size w w := Below.refl _ _
  go_enter Tryz.func48, Tryz.ntmps48
  go_wp2_with fail
  refine (refRight_any x y _ ix iy).mono ?_
  rintro e w1 ⟨rfl, hb1⟩
  have hs1 : Below w.heap.size w w1 := Below.trans (by repeat (first | exact Below.refl _ _ | refine Below.alloc ?_ (by simp <;> omega) _)) (hb1.mono (by simp <;> omega))
  have c_l_0 : w1.cell? ⟨w.heap.size, 0, none⟩ = some (.int .i64 x) := (hb1.cell (by simp <;> omega)).trans (by go_simp)
  have c_l_1 : w1.cell? ⟨w.heap.size, 1, none⟩ = some (.int .i64 y) := (hb1.cell (by simp <;> omega)).trans (by go_simp)
  have z_l := World.block_lt_of_cell? _ _ c_l_0
  have hB1 := below_two hB0 hs1
  clear hB0 hs1 hb1
  rw [h]
  go_wp2
  go_ret2
  exact ⟨rfl, hB1⟩

set_option maxRecDepth 100000 in
set_option maxHeartbeats 4000000 in
theorem vrefSplit_no3 (x y : Int) (w : World) (ix : Rat.I64 x) (iy : Rat.I64 y) (c : Int) (h : Rat.right x y = true) (h0 : ¬ x ≤ 0) (HC : Hid (∀ w, Calls Tryz.prog 77 #[rt x y, rt 64 1] w fun ed w' => ed = .returned (.int .i64 c) ∧ Below w.heap.size w w')) (hc : 0 < c) :
    Calls Tryz.prog 48 #[rt x y] w fun ed w' => ed = .returned (.tuple #[.slice none 0 0, .int .i64 41]) ∧ Below w.heap.size w w' := by
  have hB0 : Below w.heap.size w w := Below.refl _ _
  go_enter Tryz.func48, Tryz.ntmps48
  go_wp2_with fail
  refine (refRight_any x y _ ix iy).mono ?_
  rintro e w1 ⟨rfl, hb1⟩
  have hs1 : Below w.heap.size w w1 := Below.trans (by repeat (first | exact Below.refl _ _ | refine Below.alloc ?_ (by simp <;> omega) _)) (hb1.mono (by simp <;> omega))
  have c_l_0 : w1.cell? ⟨w.heap.size, 0, none⟩ = some (.int .i64 x) := (hb1.cell (by simp <;> omega)).trans (by go_simp)
  have c_l_1 : w1.cell? ⟨w.heap.size, 1, none⟩ = some (.int .i64 y) := (hb1.cell (by simp <;> omega)).trans (by go_simp)
  have z_l := World.block_lt_of_cell? _ _ c_l_0
  have hB1 := below_two hB0 hs1
  clear hB0 hs1 hb1
  rw [h]
  go_wp2_with fail
  refine (HC.out _).mono ?_
  rintro e w2 ⟨rfl, hb2⟩
  have hs2 := hb2
  replace c_l_0 := cell_later hs2 c_l_0
  replace c_l_1 := cell_later hs2 c_l_1
  clear z_l
  have z_l := World.block_lt_of_cell? _ _ c_l_0
  have hB2 := below_two hB1 hs2
  clear hB1 hs2
  go_wp2
  go_ret2
  exact ⟨rfl, hB2⟩

theorem mem' (a b c : Int) (h : 0 < c) : (a * c) % (b * c) = a % b * c := by
  rw [Int.mul_comm a c, Int.mul_comm b c, Int.mul_emod_mul_of_pos _ _ h, Int.mul_comm]
/-- The reference's units, of a kind. -/
theorem refUnits_kind {x y : Int} (h : Val.may x y = true) {i : Nat} (hi : i < 4) (w : World) : Calls Tryz.prog 78 #[rt x y, vl 0 0 (Val.kN i) (Val.kE i)] w fun ed w' => ed = .returned (.int .i64 (if Val.unI x y i then Val.uI x y i else 0)) ∧ Below w.heap.size w w' := by
  obtain ⟨hr, h0, h64⟩ := (may_iff x y).1 h
  obtain ⟨r1, r2, r3, r4⟩ := right_bounds hr
  have key : ∀ {n e : Int}, 0 < e → unV (x * 64 * n) (y * e) = if (x * 64 * n) % (y * e) = 0 then (x * 64 * n) / (y * e) else 0 := fun _ => rfl
  unfold Val.unI Val.uI
  rcases Val.mI_cases hi with ⟨_, e1, e2, e3⟩ | ⟨_, e1, e2, e3⟩ | ⟨_, e1, e2, e3⟩ | ⟨_, e1, e2, e3⟩
  · rw [e1, e2, e3]
    have := vrefUnits_plain 0 0 0 (n := 0) (by omega) (x := x) (y := y) (by omega) r4 r1 w
    unfold unV at this
    simpa using this
  all_goals
    rw [e1, e2, e3]
  · have := vrefUnits_tup 0 0 (n := 3) (e := 2) (by omega) (by omega) (by omega) (by omega) (x := x) (y := y) (by omega) r4 r1 r2 w
    unfold unV at this
    rw [show x * 64 * 3 = (x * 96) * 2 by omega, mem' _ _ _ (by omega), Int.mul_ediv_mul_of_pos_left _ _ (by omega)] at this
    have hz : ((x * 96) % y * 2 = 0) ↔ ((x * 96) % y = 0) := by omega
    simpa [hz] using this
  · have := vrefUnits_tup 0 0 (n := 5) (e := 4) (by omega) (by omega) (by omega) (by omega) (x := x) (y := y) (by omega) r4 r1 r2 w
    unfold unV at this
    rw [show x * 64 * 5 = (x * 80) * 4 by omega, mem' _ _ _ (by omega), Int.mul_ediv_mul_of_pos_left _ _ (by omega)] at this
    have hz : ((x * 80) % y * 4 = 0) ↔ ((x * 80) % y = 0) := by omega
    simpa [hz] using this
  · have := vrefUnits_tup 0 0 (n := 7) (e := 4) (by omega) (by omega) (by omega) (by omega) (x := x) (y := y) (by omega) r4 r1 r2 w
    unfold unV at this
    rw [show x * 64 * 7 = (x * 112) * 4 by omega, mem' _ _ _ (by omega), Int.mul_ediv_mul_of_pos_left _ _ (by omega)] at this
    have hz : ((x * 112) % y * 4 = 0) ↔ ((x * 112) % y = 0) := by omega
    simpa [hz] using this
def POut (x y : Int) (w w0 : World) (g : Nat) (a : Value) (wr : World) : Prop := ∃ i : Nat, a = .int .i64 (i : Int) ∧ i ≤ 4 ∧ Hid (∀ j, j < i → Val.unI x y j = false) ∧ (wr.cell? ⟨w.heap.size, 0, none⟩ = some (.int .i64 x) ∧ wr.cell? ⟨w.heap.size, 1, none⟩ = some (.int .i64 y)) ∧ Hid (RRow wr g) ∧ Below w0.heap.size w0 wr
def PIn (u n e : Int) (w0 : World) (a l : Value) (wr : World) : Prop :=
  ∃ (j : Nat) (r : Int), a = .int .i64 r ∧ Hid (Val.rm u j = r) ∧ Hid (∀ i, i < j → 1 ≤ Val.rm u i) ∧ wr.ownsRow w0.heap.size 23 4 l j (rowOf (Val.upto (prt u n e) j)) ∧ Below w0.heap.size w0 wr

set_option maxRecDepth 100000 in
set_option maxHeartbeats 4000000 in
theorem vrefSplit_yes (x y : Int) (w : World) (ix : Rat.I64 x) (iy : Rat.I64 y) (c : Int) (hm : Val.may x y = true) (h : Rat.right x y = true) (h0 : ¬ x ≤ 0) (HC : Hid (∀ w, Calls Tryz.prog 77 #[rt x y, rt 64 1] w fun ed w' => ed = .returned (.int .i64 c) ∧ Below w.heap.size w w')) (hc : ¬ 0 < c) :
    Calls Tryz.prog 48 #[rt x y] w (SplPost x y w) := by
  obtain ⟨i0, hi, hz0, hz1, hz2⟩ := info_parts infoV
  have hB0 : Below w.heap.size w w := Below.refl _ _
  go_enter Tryz.func48, Tryz.ntmps48
  go_wp2_with fail
  refine (refRight_any x y _ ix iy).mono ?_
  rintro e w1 ⟨rfl, hb1⟩
  have hs1 : Below w.heap.size w w1 := Below.trans (by repeat (first | exact Below.refl _ _ | refine Below.alloc ?_ (by simp <;> omega) _)) (hb1.mono (by simp <;> omega))
  have c_l_0 : w1.cell? ⟨w.heap.size, 0, none⟩ = some (.int .i64 x) := (hb1.cell (by simp <;> omega)).trans (by go_simp)
  have c_l_1 : w1.cell? ⟨w.heap.size, 1, none⟩ = some (.int .i64 y) := (hb1.cell (by simp <;> omega)).trans (by go_simp)
  have z_l := World.block_lt_of_cell? _ _ c_l_0
  have hB1 := below_two hB0 hs1
  clear hB0 hs1 hb1
  rw [h]
  go_wp2_with fail
  refine (HC.out _).mono ?_
  rintro e w2 ⟨rfl, hb2⟩
  have hs2 := hb2
  replace c_l_0 := cell_later hs2 c_l_0
  replace c_l_1 := cell_later hs2 c_l_1
  clear z_l
  have z_l := World.block_lt_of_cell? _ _ c_l_0
  have hB2 := below_two hB1 hs2
  clear hB1 hs2
  go_wp2_with fail
  refine (refKinds_any _).mono ?_
  rintro e w3 ⟨⟨g, rfl, hrow⟩, hb3⟩
  have hs3 := hb3
  replace c_l_0 := cell_later hs3 c_l_0
  replace c_l_1 := cell_later hs3 c_l_1
  clear z_l
  have z_l := World.block_lt_of_cell? _ _ c_l_0
  have hB3 := below_two hB2 hs3
  clear hB2 hs3
  have HRW := Lib.hid hrow
  clear hrow
  go_wp2
  go_loopw [5] (fun a wr => POut x y w w3 g a wr) (fun a _ => (4 - intOf a).toNat)
  case atStart => exact ⟨0, rfl, by omega, Lib.hid (fun j hj => by omega), ⟨c_l_0, c_l_1⟩, HRW, Below.refl _ _⟩
  case round =>
    clear c_l_0 c_l_1 HRW z_l
    obtain ⟨i, rfl, hi4, HN, ⟨l0, l1⟩, HRW, hBr⟩ := hrel
    by_cases hp : i < 4
    · obtain ⟨g', cap', e1, hc1⟩ := HRW.out
      cases e1
      obtain ⟨s0, s1, s2, s3⟩ := hc1 i hp
      clear hc1
      simp only at s0 s1 s2 s3
      have hcall := refUnits_kind hm hp
      obtain ⟨n, HKN⟩ : ∃ n, Hid (Val.kN i = n) := ⟨_, Lib.hid rfl⟩
      obtain ⟨e, HKE⟩ : ∃ e, Hid (Val.kE i = e) := ⟨_, Lib.hid rfl⟩
      rw [HKN.out] at s2
      rw [HKE.out] at s3
      rw [HKN.out, HKE.out] at hcall
      have HU := Lib.hid hcall
      clear hcall
      obtain ⟨U, HV⟩ : ∃ U, Hid ((if Val.unI x y i then Val.uI x y i else 0) = U) := ⟨_, Lib.hid rfl⟩
      go_wp2_with fail
      have g_l0 := fun dd os => cell_regrown l0 dd os
      have g_l1 := fun dd os => cell_regrown l1 dd os
      have g_s0 := fun dd os => cell_regrown s0 dd os
      have g_s1 := fun dd os => cell_regrown s1 dd os
      have g_s2 := fun dd os => cell_regrown s2 dd os
      have g_s3 := fun dd os => cell_regrown s3 dd os
      have q0 : Hid (∀ dd os, Calls Tryz.prog 78 #[rt x y, vl 0 0 n e] (Go.Sort.grow (redrawn wr dd) os) fun ed w_ => ed = .returned (.int .i64 U) ∧ ∃ p : Regrown, w_ = Go.Sort.grow (redrawn wr p.d) p.os) := Lib.hid (fun dd os => Calls.regrown_of (by have := HU.out (Go.Sort.grow (redrawn wr dd) os); rw [HV.out] at this; exact this))
      refine wp_region_quiet_below (by kernel_rfl) (by kernel_rfl) ?_
      repeat (go_big_quiet_step (first | (go_at_call 78; exact q0.out _ _)))
      refine wpQuiet_nil ?_
      intro _ hw'
      obtain ⟨⟨dq, osq⟩, hw''⟩ := hw'
      subst hw''
      clear g_l0 g_l1 g_s0 g_s1 g_s2 g_s3
      clear q0
      have hb_wq := below_regrown wr dq osq
      generalize Go.Sort.grow (redrawn wr dq) osq = wq at *
      replace l0 := cell_later hb_wq l0
      replace l1 := cell_later hb_wq l1
      replace s2 := cell_later hb_wq s2
      replace s3 := cell_later hb_wq s3
      replace HRW := Lib.hid (HRW.out.later hb_wq)
      replace hBr := below_two hBr hb_wq
      clear hb_wq s0 s1 HU
      cases hu : Val.unI x y i with
      | false =>
        obtain rfl : U = 0 := by have := HV.out; rw [hu] at this; simpa using this.symm
        clear HV s2 s3
        go_wp2
        go_roundw
        case rel => exact ⟨i + 1, by go_num, by omega, Lib.hid (fun j hj => by by_cases e : j = i; (rw [e]; exact hu); exact HN.out j (by omega)), ⟨l0, l1⟩, HRW, hBr⟩
        case measure => simp [intOf]; omega
      | true =>
        have HUU : Hid (Val.uI x y i = U) := Lib.hid (by have := HV.out; rw [hu, if_pos rfl] at this; exact this)
        have hu1 := uI_pos hm hp hu
        have hu2 := (unit_le hm hp).2
        rw [HUU.out] at hu1 hu2
        have HBW := Lib.hid (below_two hB3 hBr)
        have zg := World.block_lt_of_cell? _ _ s2
        simp only at zg
        clear HV l0 l1 HRW hBr
        have hU0 : ¬ U = 0 := by omega
        go_wp2_with fail
        rw [show decide ((i : Int) < 4) = true from decide_eq_true (by omega), show (U == 0) = false by simp [hU0]]
        go_loopw [6, 7] (fun a l wr => PIn U n e wq a l wr) (fun a _ _ => (intOf a).toNat)
        case atStart => exact ⟨0, U, rfl, Lib.hid rfl, Lib.hid (fun i hi => by omega), own_nil _ _ _ _, Below.refl _ _⟩
        case round =>
          obtain ⟨j, r, rfl, HR, HP, hown, hB⟩ := hrel
          obtain ⟨hn0, hnu⟩ := Val.rm_nonneg (u := U) (by omega) HP.out
          rw [HR.out] at hn0 hnu
          by_cases hr : 0 < r
          · go_wp2_with fail
            refine (longest_any r _ (by omega)).mono ?_
            rintro ed w4 ⟨rfl, hb⟩
            replace hown := own_later hown hb
            replace hB := below_two hB hb
            clear hb
            have t2 := (hB.cell (p := ⟨g, i * 4 + 2, none⟩) zg).trans s2
            have t3 := (hB.cell (p := ⟨g, i * 4 + 3, none⟩) zg).trans s3
            have zw : g < w4.heap.size := Nat.lt_of_lt_of_le zg hB.size
            have hU := (Val.fitK_lt (m := r) (by omega)).2
            have HQ : Hid (prt U n e j = (Val.gB r, Val.gT r, n, e)) := Lib.hid (by unfold prt; rw [HR.out])
            have HG : Hid (Val.rm U (j + 1) = r - Val.gU r) := Lib.hid (by show Val.rm U j - Val.gU (Val.rm U j) = _; rw [HR.out])
            generalize Val.gB r = p at *
            generalize Val.gT r = q at *
            generalize Val.gU r = m at *
            obtain ⟨g1, g2, -⟩ := hU
            have HOW := Lib.hid hown
            have HB := Lib.hid hB
            clear hown hB
            have zs := HB.out.size
            go_wp2_with (first
              | (at_builtin; refine wpList_append_own _ rfl _ _ 31 rfl wq.heap.size 23 i0 (.agg #[.int .i64 0, .int .i64 0, .int .i64 0, .int .i64 0]) 4 32 Tryz.underlying31 hi hz0 hz1 hz2 rfl (by decide) _ _ _ rfl ((HOW.out.alloc _).alloc _) ⟨w4.heap.size + 1, 0, none⟩ 1 1 [.int .i64 p, .int .i64 q, .int .i64 n, .int .i64 e] rfl rfl ?c1 ?c2 ?c3 ?c4 ?c5 ?_)
              | fail)
            case c1 => exact cells4_new _ _ _ _ _ _ (by simp)
            case c2 => intro u hu; simp at hu; rcases hu with rfl | rfl | rfl | rfl <;> rfl
            case c3 => unfold maxLen; omega
            case c4 => omega
            case c5 => simp; omega
            · intro v' w5 hown5 hgrow _
              have hb5 : Below wq.heap.size ((w4.alloc (.cells #[.int .i64 p, .int .i64 q, .int .i64 n, .int .i64 e] 23)).alloc (.cells #[.int .i64 p, .int .i64 q, .int .i64 n, .int .i64 e] 23)) w5 := (Below.refl _ _).grown hgrow (by simp; omega) (fun k hk => (HOW.out.lt k hk).1)
              have HB5 : Hid (Below wq.heap.size wq w5) := Lib.hid ((alloc_below (alloc_below HB.out)).trans hb5)
              have HOWN : Hid (w5.ownsRow wq.heap.size 23 4 v' (j + 1) (rowOf (Val.upto (prt U n e) (j + 1)))) := Lib.hid (by rw [Val.upto_succ, rowOf_append, HQ.out]; exact hown5)
              clear hb5 hown5 hgrow HOW HB t2 t3
              have HP2 : Hid (∀ i, i < j + 1 → 1 ≤ Val.rm U i) := Lib.hid (fun i hi => by by_cases e : i = j; (rw [e, HR.out]; omega); exact HP.out i (by omega))
              go_wp2
              go_roundw
              case rel => exact ⟨j + 1, r - m, rfl, Lib.hid HG.out, HP2, HOWN.out, HB5.out⟩
              case measure => simp [intOf]; omega
          · obtain rfl : r = 0 := by omega
            have HJ : 1 ≤ j := by
              rcases Nat.eq_zero_or_pos j with h | h
              · subst h; have := HR.out; simp only [Val.rm] at this; omega
              · exact h
            have HV : Hid (SplV x y wr u7 0) := Lib.hid (.inr ⟨i, j, hp, by unfold Val.spK; rw [hm, if_pos rfl]; exact Val.fst_found hp HN.out hu, rfl, by rw [HUU.out]; exact ⟨HR.out, HP.out⟩, HJ, by rw [HUU.out, HKN.out, HKE.out]; exact row_of HJ hown⟩)
            have HBE := Lib.hid (below_two HBW.out hB)
            clear hown hB
            go_wp2
            refine bodyPost_ret (v := .tuple #[u7, .int .i64 0]) (by simp [results, Tryz.results48, go_sem]) rfl ⟨⟨_, _, rfl, HV.out⟩, HBE.out⟩
    · obtain rfl : i = 4 := by omega
      have HV : Hid (∀ W, SplV x y W (.slice none 0 0) 41) := Lib.hid (fun W => .inl ⟨by unfold Val.spK; rw [hm, if_pos rfl]; exact Val.fst_none HN.out, rfl, rfl⟩)
      have HBW := Lib.hid (below_two hB3 hBr)
      go_wp2
      refine bodyPost_ret (v := .tuple #[.slice none 0 0, .int .i64 41]) (by simp [results, Tryz.results48, go_sem]) rfl ⟨⟨_, _, rfl, HV.out _⟩, HBW.out⟩

theorem cmp64R {x y : Int} (ix : Rat.I64 x) (iy : Rat.I64 y) (h : Rat.right x y = true) (w : World) : Calls Tryz.prog 77 #[rt x y, rt 64 1] w fun ed w' => ed = .returned (.int .i64 (Rat.sgn (x - 64 * y))) ∧ Below w.heap.size w w' := by
  have := refCompare_any x y 64 1 w ix iy ⟨by decide, by decide⟩ ⟨by decide, by decide⟩
  rw [h, show Rat.right 64 1 = true by decide +kernel, Int.mul_one] at this
  exact this
/-- The reference's Split. -/
theorem refSplit_any (x y : Int) (w : World) (ix : Rat.I64 x) (iy : Rat.I64 y) : Calls Tryz.prog 48 #[rt x y] w (SplPost x y w) := by
  have no : Val.may x y = false → ∀ W, SplV x y W (.slice none 0 0) 41 := fun h W => .inl ⟨by unfold Val.spK; rw [h]; rfl, rfl, rfl⟩
  cases h : Rat.right x y
  · exact (vrefSplit_no1 x y w ix iy h).mono fun ed w' ⟨he, hb⟩ => ⟨⟨_, _, he, no (by unfold Val.may; rw [h]; rfl) _⟩, hb⟩
  · by_cases h0 : x ≤ 0
    · exact (vrefSplit_no2 x y w ix iy h h0).mono fun ed w' ⟨he, hb⟩ => ⟨⟨_, _, he, no (by unfold Val.may; rw [h, show decide (0 < x) = false from decide_eq_false (by omega)]; rfl) _⟩, hb⟩
    · rcases sgn_cases (x - 64 * y) with ⟨a, b⟩ | ⟨a, b⟩ | ⟨a, b⟩
      · exact vrefSplit_yes x y w ix iy _ (by unfold Val.may; rw [h, decide_eq_true (show 0 < x by omega), decide_eq_true (show x ≤ 64 * y by omega)]; rfl) h h0 (Lib.hid (cmp64R ix iy h)) (by omega)
      · exact vrefSplit_yes x y w ix iy _ (by unfold Val.may; rw [h, decide_eq_true (show 0 < x by omega), decide_eq_true (show x ≤ 64 * y by omega)]; rfl) h h0 (Lib.hid (cmp64R ix iy h)) (by omega)
      · exact (vrefSplit_no3 x y w ix iy _ h h0 (Lib.hid (cmp64R ix iy h)) (by omega)).mono fun ed w' ⟨he, hb⟩ => ⟨⟨_, _, he, no (by unfold Val.may; rw [h, show decide (x ≤ 64 * y) = false from decide_eq_false (by omega)]; simp) _⟩, hb⟩
end Go.Proofs.YtejiifkenanodaaGreatDoor
