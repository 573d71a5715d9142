/-
  ValueSplits answers true: the law's walk.
-/
import Derived.Test.YtejiifkenanodaaGreatDoorValSplF
import Derived.Deep.DeepCutAuto
import Derived.Deep.RegionHeld3
import Derived.LoopN
namespace Go.Proofs.YtejiifkenanodaaGreatDoor
open Go.RowKit

def b0 (r : Nat) : Int := [1, 2, 4, 4].getD r 1
def b1 (r : Nat) : Int := [1, 3, 5, 7].getD r 1
/-- A ratio's block, somewhere. -/
def AtR (X Y : Int) (w0 : World) (p : Value) (wx : World) : Prop := ∃ A : Nat, p = .pointer (some ⟨A, 0, none⟩) ∧ wx.cell? ⟨A, 0, none⟩ = some (.int .i64 X) ∧ wx.cell? ⟨A, 1, none⟩ = some (.int .i64 Y) ∧ Below w0.heap.size w0 wx
/-- What is known of one of the four lengths. -/
structure Lng (X Y : Int) (f : Nat → Quad) (k : Nat) : Prop where
  k1 : 1 ≤ k
  k2 : k ≤ 1000000
  split : ∀ w, Vars w → Calls Tryz.prog 30 #[rt X Y] w fun ed w' => (∃ v, ed = .returned (.tuple #[v, .int .i64 0]) ∧ Row w' v f k) ∧ Below w.heap.size w w'
  sum : ∀ w v, Vars w → Row w v f k → Calls Tryz.prog 26 #[v] w fun ed w' => ed = .returned (.tuple #[rt X Y, .bool true]) ∧ Below w.heap.size w w'
  right : ∀ j, j < k → ∀ w, Calls Tryz.prog 19 #[vl (f j).1 (f j).2.1 (f j).2.2.1 (f j).2.2.2] w fun ed w' => ed = .returned (.bool true) ∧ Below w.heap.size w w'
  kind : ∀ j, j < k → (f j).2.2.1 = (f 0).2.2.1 ∧ (f j).2.2.2 = (f 0).2.2.2
  less : ∀ j, j + 1 < k → ∃ (N D N' D' c : Int), ¬ c < 0 ∧ (∀ w, Vars w → Calls Tryz.prog 28 #[vl (f j).1 (f j).2.1 (f j).2.2.1 (f j).2.2.2] w fun ed w' => ed = .returned (rt N D) ∧ Below w.heap.size w w') ∧ (∀ w, Vars w → Calls Tryz.prog 28 #[vl (f (j + 1)).1 (f (j + 1)).2.1 (f (j + 1)).2.2.1 (f (j + 1)).2.2.2] w fun ed w' => ed = .returned (rt N' D') ∧ Below w.heap.size w w') ∧ ∀ w, Calls Tryz.prog 31 #[rt N D, rt N' D'] w fun ed w' => ed = .returned (.int .i64 c) ∧ Below w.heap.size w w'
  find : (k = 1 ∧ ∀ w, Vars w → Calls Tryz.prog 27 #[rt X Y] w fun ed w' => ed = .returned (.tuple #[vl (f 0).1 (f 0).2.1 (f 0).2.2.1 (f 0).2.2.2, .bool true]) ∧ Below w.heap.size w w') ∨ (∀ w, Vars w → Calls Tryz.prog 27 #[rt X Y] w fun ed w' => ed = .returned (.tuple #[vl 0 0 0 0, .bool false]) ∧ Below w.heap.size w w')

set_option maxRecDepth 100000 in
set_option maxHeartbeats 4000000 in
theorem valueSplits_no (l e : Int) (w : World) (hR : Vars w) (il : Rat.I64 l) (p u : Int) (HP : Hid (pickS l 4096 = p)) (hu : IntKind.i64.wrap (1 + p) = u) (A B X Y : Nat → Int) (f : Nat → Nat → Quad) (k : Nat → Nat) (HQ : Hid (∀ r, r < 4 → IntKind.i64.wrap (u * b0 r) = A r ∧ IntKind.i64.wrap (64 * b1 r) = B r ∧ Rat.I64 (A r) ∧ Rat.I64 (B r) ∧ Rat.ofN (A r) (B r) = X r ∧ Rat.ofD (A r) (B r) = Y r ∧ Rat.ofE (A r) (B r) = 0 ∧ Lng (X r) (Y r) (f r) (k r))) (HS : Hid (∀ w, Vars w → Calls Tryz.prog 30 #[rt l e] w fun ed w' => ed = .returned (.tuple #[.slice none 0 0, .int .i64 41]) ∧ Below w.heap.size w w')) :
    Calls Tryz.prog 7 #[rt l e] w fun ed w' => ed = .returned (.bool true) ∧ Below w.heap.size w w' := by
  have hgR := guardR
  have hgV := guardV
  have heR := eql_rt
  have heV := eql_vl
  have hnR := neq_rt
  have hnV := neq_vl
  have hsR := eqR_self
  have hsV := eqV_self
  have hB0 : Below w.heap.size w w := Below.refl _ _
  go_enter Tryz.func7, Tryz.ntmps7
  go_wp2_with fail
  have hR' := hR.below (hB0.alloc hB0.size (.cells #[.int .i64 l, .int .i64 e] 25))
  refine (examples_any _ hR').mono ?_
  rintro e w1 ⟨rfl, hb1⟩
  clear hR'
  have hs1 : Below w.heap.size w w1 := Below.trans (by repeat (first | exact Below.refl _ _ | refine Below.alloc ?_ (by simp <;> omega) _)) (hb1.mono (by simp <;> omega))
  have c_l_0 : w1.cell? ⟨w.heap.size, 0, none⟩ = some (.int .i64 l) := (hb1.cell (by simp <;> omega)).trans (by go_simp)
  have c_l_1 : w1.cell? ⟨w.heap.size, 1, none⟩ = some (.int .i64 e) := (hb1.cell (by simp <;> omega)).trans (by go_simp)
  have z_l := World.block_lt_of_cell? _ _ c_l_0
  have hB1 := below_two hB0 hs1
  clear hB0 hs1 hb1
  go_wp2_with fail
  have hs2 : Below w1.heap.size w1 (w1.alloc (.cells #[.int .i64 1, .int .i64 1, .int .i64 2, .int .i64 3, .int .i64 4, .int .i64 5, .int .i64 4, .int .i64 7] 48)) := by repeat (first | exact Below.refl _ _ | refine Below.alloc ?_ (by simp <;> omega) _)
  replace c_l_0 := cell_later hs2 c_l_0
  replace c_l_1 := cell_later hs2 c_l_1
  have c_t_0 : (w1.alloc (.cells #[.int .i64 1, .int .i64 1, .int .i64 2, .int .i64 3, .int .i64 4, .int .i64 5, .int .i64 4, .int .i64 7] 48)).cell? ⟨w1.heap.size, 0, none⟩ = some (.int .i64 1) := by go_simp
  have c_t_1 : (w1.alloc (.cells #[.int .i64 1, .int .i64 1, .int .i64 2, .int .i64 3, .int .i64 4, .int .i64 5, .int .i64 4, .int .i64 7] 48)).cell? ⟨w1.heap.size, 1, none⟩ = some (.int .i64 1) := by go_simp
  have c_t_2 : (w1.alloc (.cells #[.int .i64 1, .int .i64 1, .int .i64 2, .int .i64 3, .int .i64 4, .int .i64 5, .int .i64 4, .int .i64 7] 48)).cell? ⟨w1.heap.size, 2, none⟩ = some (.int .i64 2) := by go_simp
  have c_t_3 : (w1.alloc (.cells #[.int .i64 1, .int .i64 1, .int .i64 2, .int .i64 3, .int .i64 4, .int .i64 5, .int .i64 4, .int .i64 7] 48)).cell? ⟨w1.heap.size, 3, none⟩ = some (.int .i64 3) := by go_simp
  have c_t_4 : (w1.alloc (.cells #[.int .i64 1, .int .i64 1, .int .i64 2, .int .i64 3, .int .i64 4, .int .i64 5, .int .i64 4, .int .i64 7] 48)).cell? ⟨w1.heap.size, 4, none⟩ = some (.int .i64 4) := by go_simp
  have c_t_5 : (w1.alloc (.cells #[.int .i64 1, .int .i64 1, .int .i64 2, .int .i64 3, .int .i64 4, .int .i64 5, .int .i64 4, .int .i64 7] 48)).cell? ⟨w1.heap.size, 5, none⟩ = some (.int .i64 5) := by go_simp
  have c_t_6 : (w1.alloc (.cells #[.int .i64 1, .int .i64 1, .int .i64 2, .int .i64 3, .int .i64 4, .int .i64 5, .int .i64 4, .int .i64 7] 48)).cell? ⟨w1.heap.size, 6, none⟩ = some (.int .i64 4) := by go_simp
  have c_t_7 : (w1.alloc (.cells #[.int .i64 1, .int .i64 1, .int .i64 2, .int .i64 3, .int .i64 4, .int .i64 5, .int .i64 4, .int .i64 7] 48)).cell? ⟨w1.heap.size, 7, none⟩ = some (.int .i64 7) := by go_simp
  have hB2 := below_two hB1 hs2
  clear hB1 hs2
  have y2_l := z_l
  generalize (w1.alloc (.cells #[.int .i64 1, .int .i64 1, .int .i64 2, .int .i64 3, .int .i64 4, .int .i64 5, .int .i64 4, .int .i64 7] 48)) = w2 at *
  clear z_l
  have z_l := World.block_lt_of_cell? _ _ c_l_0
  have z_t := World.block_lt_of_cell? _ _ c_t_0
  have hTab : ∀ r, r < 4 → w2.cell? ⟨w1.heap.size, r * 2, none⟩ = some (.int .i64 (b0 r)) ∧ w2.cell? ⟨w1.heap.size, r * 2 + 1, none⟩ = some (.int .i64 (b1 r)) := by
    intro r hr
    match r, hr with
    | 0, _ => exact ⟨c_t_0, c_t_1⟩
    | 1, _ => exact ⟨c_t_2, c_t_3⟩
    | 2, _ => exact ⟨c_t_4, c_t_5⟩
    | 3, _ => exact ⟨c_t_6, c_t_7⟩
  have HTab := Lib.hid hTab
  clear hTab c_t_0 c_t_1 c_t_2 c_t_3 c_t_4 c_t_5 c_t_6 c_t_7
  simp only at z_t z_l
  go_loopw [28] (fun a wr => CntRel 4 w2 a wr) (fun a _ => (4 - intOf a).toNat)
  case atStart => exact ⟨0, rfl, by omega, Below.refl _ _⟩
  case round =>
    obtain ⟨r, rfl, hr4, hBr⟩ := hrel
    by_cases hr : r < 4
    · obtain ⟨qa, qb, qc, qd, qe, qf, qg, hL⟩ := HQ.out r hr
      have HL := Lib.hid hL
      have HO := Lib.hid (And.intro qe (And.intro qf qg))
      clear hL qe qf qg
      obtain ⟨t0, t1⟩ := HTab.out r hr
      replace t0 := cell_later hBr t0
      replace t1 := cell_later hBr t1
      have l0 := cell_later hBr c_l_0
      generalize b0 r = y0 at *
      generalize b1 r = y1 at *
      generalize A r = a0 at *
      generalize B r = a1 at *
      generalize X r = xN at *
      generalize Y r = xD at *
      have zl := World.block_lt_of_cell? _ _ l0
      go_upto_region 7 with fail
      have k0 : (wr.alloc (.cells #[.int .i64 y0, .int .i64 y1] 48)).cell? ⟨wr.heap.size, 0, none⟩ = some (.int .i64 y0) := by go_simp
      have k1 : (wr.alloc (.cells #[.int .i64 y0, .int .i64 y1] 48)).cell? ⟨wr.heap.size, 1, none⟩ = some (.int .i64 y1) := by go_simp
      replace l0 := alloc_cell (o := .cells #[.int .i64 y0, .int .i64 y1] 48) l0
      replace hBr := alloc_below (o := .cells #[.int .i64 y0, .int .i64 y1] 48) hBr
      clear t0 t1 zl
      generalize wr.alloc (.cells #[.int .i64 y0, .int .i64 y1] 48) = wa at *
      generalize wr.heap.size = K at *
      have zl := World.block_lt_of_cell? _ _ l0
      have zk := World.block_lt_of_cell? _ _ k0
      have za := hBr.size
      simp only at zl zk
      go_cut [6, 7] (fun p _ wx => AtR xN xD w2 p wx)
      case first =>
        have RA : Hid (∀ u, Below (wa.alloc (.cells #[.int .i64 0, .int .i64 0] 25)).drew.heap.size (wa.alloc (.cells #[.int .i64 0, .int .i64 0] 25)).drew u → u.cell? ⟨wa.heap.size, 0, none⟩ = some (.int .i64 0) ∧ u.cell? ⟨wa.heap.size, 1, none⟩ = some (.int .i64 0) ∧ u.frozen? ⟨wa.heap.size, 0, none⟩ = false ∧ u.frozen? ⟨wa.heap.size, 1, none⟩ = false ∧ Below w2.heap.size w2 u) := Lib.hid (fun u hq => by
          have e0 : (wa.alloc (.cells #[.int .i64 0, .int .i64 0] 25)).drew.cell? ⟨wa.heap.size, 0, none⟩ = some (.int .i64 0) := cell_drew (by go_simp)
          have e1 : (wa.alloc (.cells #[.int .i64 0, .int .i64 0] 25)).drew.cell? ⟨wa.heap.size, 1, none⟩ = some (.int .i64 0) := cell_drew (by go_simp)
          exact ⟨cell_later hq e0, cell_later hq e1, frozen_later hq e0 (frozen_drew (by go_simp)), frozen_later hq e1 (frozen_drew (by go_simp)), below_two (alloc_below hBr).drew hq⟩)
        have RB : Hid (∀ u, Below wa.drew.heap.size wa.drew u → u.cell? ⟨w.heap.size, 0, none⟩ = some (.int .i64 l) ∧ u.cell? ⟨K, 0, none⟩ = some (.int .i64 y0) ∧ u.cell? ⟨K, 1, none⟩ = some (.int .i64 y1) ∧ Below w2.heap.size w2 u) := Lib.hid (fun u hq => ⟨cell_later hq (cell_drew l0), cell_later hq (cell_drew k0), cell_later hq (cell_drew k1), below_two hBr.drew hq⟩)
        clear hgR hgV heR heV hnR hnV hsR hsV HL HTab HQ HS hR c_l_0 c_l_1 hB2
        go_region_held3 (fun w' => w'.cell? ⟨w.heap.size, 0, none⟩ = some (.int .i64 l) ∧ w'.cell? ⟨K, 0, none⟩ = some (.int .i64 y0) ∧ w'.cell? ⟨K, 1, none⟩ = some (.int .i64 y1) ∧ Below w2.heap.size w2 w')
          (((try go_split_ands); refine ⟨?_, ?_, ?_, ?_⟩ <;> first | with_reducible assumption | (with_reducible refine cell_later hq ?_; with_reducible assumption) | (with_reducible refine below_two ?_ hq; with_reducible assumption) | (with_reducible refine alloc_cell ?_; with_reducible assumption) | (with_reducible refine alloc_below ?_; with_reducible assumption) | (with_reducible refine set_far ?_ (set_far ?_ ?_); omega; omega; with_reducible assumption) | (with_reducible refine put2_below ?_ ?_; with_reducible assumption; omega) | with_reducible exact cell_drew l0 | with_reducible exact cell_drew k0 | with_reducible exact cell_drew k1 | with_reducible exact hBr.drew | with_reducible exact cell_drew (alloc_cell l0) | with_reducible exact cell_drew (alloc_cell k0) | with_reducible exact cell_drew (alloc_cell k1) | with_reducible exact (alloc_below hBr).drew))
          (first
            | (go_at_call 23; refine (pick_any l 4096 _ il (by decide) (by decide)).mono ?_; rintro ed wx ⟨rfl, rfl⟩; rw [HP.out])
            | (go_at_call 29; first
                | (with_reducible refine (of_any a0 a1 wa.drew qc qd).mono ?_; rintro ed u5 ⟨rfl, hq⟩; rw [HO.out.1, HO.out.2.1, HO.out.2.2]; obtain ⟨n_l, n_0, n_1, hb5⟩ := RB.out _ hq)
                | (with_reducible refine (of_any a0 a1 (wa.alloc (.cells #[.int .i64 0, .int .i64 0] 25)).drew qc qd).mono ?_; rintro ed u5 ⟨rfl, hq⟩; rw [HO.out.1, HO.out.2.1, HO.out.2.2]; obtain ⟨r_0, r_1, f_0, f_1, hb5⟩ := RA.out _ hq)))
        all_goals (first
          | (go_wp2_with fail; go_meet; case rel => exact ⟨_, rfl, (put2_of r_0 r_1).1, (put2_of r_0 r_1).2, put2_below hb5 (by omega)⟩)
          | (go_wp2_with fail; go_meet; case rel => exact ⟨_, rfl, by go_simp, by go_simp, alloc_below hb5⟩))
      case rest =>
        obtain ⟨A1, rfl, x0, x1, hBx⟩ := hcut
        clear hBr l0 k0 k1 zl zk za qa qb qc qd HO
        have hBr := hBx
        have hBW := below_two hB2 hBx
        clear hBx
        go_wp2_with fail
        refine (HL.out.split _ (hR.below hBW)).mono ?_
        rintro ed w5 ⟨⟨sv, rfl, hrow⟩, hb⟩
        have HROW := Lib.hid hrow
        clear hrow
        replace x0 := cell_later hb x0
        replace x1 := cell_later hb x1
        replace hBW := below_two hBW hb
        replace hBr := below_two hBr hb
        clear hb
        go_wp2_with fail
        refine (HL.out.sum _ _ (hR.below hBW) HROW.out).mono ?_
        rintro ed w6 ⟨rfl, hb⟩
        replace HROW := Lib.hid (HROW.out.later hb)
        replace x0 := cell_later hb x0
        replace x1 := cell_later hb x1
        replace hBW := below_two hBW hb
        replace hBr := below_two hBr hb
        clear hb
        have hk1 := HL.out.k1
        have hk2 := HL.out.k2
        have hkz : ((k r : Int) == 0) = false := by simp; omega
        obtain ⟨g, cap, rfl, _⟩ := HROW.out
        replace HROW := Lib.hid (HROW.out.later ((Below.refl w6.heap.size w6).alloc (Nat.le_refl _) (.cells #[.int .i64 xN, .int .i64 xD] 25)))
        have X0 := Lib.hid (alloc_cell (o := .cells #[.int .i64 xN, .int .i64 xD] 25) x0)
        have X1 := Lib.hid (alloc_cell (o := .cells #[.int .i64 xN, .int .i64 xD] 25) x1)
        have HBW := Lib.hid (alloc_below (o := .cells #[.int .i64 xN, .int .i64 xD] 25) hBW)
        have HBR := Lib.hid (alloc_below (o := .cells #[.int .i64 xN, .int .i64 xD] 25) hBr)
        clear hBW hBr
        have zx := World.block_lt_of_cell? _ _ x0
        simp only at zx
        go_wp2_with fail
        have x0 := X0.out
        have x1 := X1.out
        have hBW := HBW.out
        have hBr := HBR.out
        clear X0 X1 HBW HBR zx
        generalize w6.alloc (.cells #[.int .i64 xN, .int .i64 xD] 25) = w6' at *
        generalize w6.heap.size = KS at *
        go_loopw [12] (fun a wr => CntRel (k r) w6' a wr) (fun a _ => ((k r : Int) - intOf a).toNat)
        case atStart => exact ⟨0, rfl, by omega, Below.refl _ _⟩
        case round =>
          obtain ⟨i, rfl, hi, hBi⟩ := hrel
          by_cases hlt : i < k r
          · obtain ⟨_, _, e1, hc⟩ := HROW.out.later hBi
            cases e1
            clear x0 x1
            rcases i with _ | m
            · obtain ⟨s0, s1, s2, s3⟩ := hc 0 (by omega)
              have HRI := Lib.hid (HL.out.right 0 (by omega))
              generalize (f r 0).1 = x0 at *
              generalize (f r 0).2.1 = x1 at *
              generalize (f r 0).2.2.1 = x2 at *
              generalize (f r 0).2.2.2 = x3 at *
              simp only [Nat.zero_mul, Nat.zero_add] at s0 s1 s2 s3
              have hk0 : (0 : Int) < (k r : Int) := by omega
              clear hc
              go_wp2_with fail
              have g_s0 := fun dd os => cell_regrown s0 dd os
              have g_s1 := fun dd os => cell_regrown s1 dd os
              have g_s2 := fun dd os => cell_regrown s2 dd os
              have g_s3 := fun dd os => cell_regrown s3 dd os
              have q0 : Hid (∀ dd os, Calls Tryz.prog 19 #[vl x0 x1 x2 x3] (Go.Sort.grow (redrawn wr dd) os) fun ed w_ => ed = .returned (.bool true) ∧ ∃ p : Regrown, w_ = Go.Sort.grow (redrawn wr p.d) p.os) := Lib.hid (fun dd os => Calls.regrown_of (HRI.out (Go.Sort.grow (redrawn wr dd) os)))
              refine wp_region_quiet_below (by kernel_rfl) (by kernel_rfl) ?_
              repeat (go_big_quiet_step (first | (go_at_call 19; exact q0.out _ _)))
              refine wpQuiet_nil ?_
              intro _ hw'
              obtain ⟨⟨dq, osq⟩, hw''⟩ := hw'
              subst hw''
              clear g_s0 g_s1 g_s2 g_s3
              clear q0
              have hb_wj := below_regrown wr dq osq
              generalize Go.Sort.grow (redrawn wr dq) osq = wj at *
              go_wp2
              go_roundw
              case rel => exact ⟨1, by go_num, by omega, below_two hBi hb_wj⟩
              case measure => simp [intOf]; omega
            · obtain ⟨s0, s1, s2, s3⟩ := hc (m + 1) (by omega)
              obtain ⟨t0, t1, t2, t3⟩ := hc m (by omega)
              obtain ⟨_, _, z2, z3⟩ := hc 0 (by omega)
              simp only [Nat.zero_mul, Nat.zero_add] at z2 z3
              have HRI := Lib.hid (HL.out.right (m + 1) (by omega))
              obtain ⟨N, D, N', D', c, hc0, hl1, hl2, hl3⟩ := HL.out.less m (by omega)
              have HL1 := Lib.hid hl1
              have HL2 := Lib.hid hl2
              have HL3 := Lib.hid hl3
              clear hl1 hl2 hl3
              obtain ⟨k1, k2⟩ := HL.out.kind (m + 1) (by omega)
              obtain ⟨k3, k4⟩ := HL.out.kind m (by omega)
              rw [k1] at s2 HRI HL2
              rw [k2] at s3 HRI HL2
              rw [k3] at t2 HL1
              rw [k4] at t3 HL1
              clear k1 k2 k3 k4
              generalize (f r (m + 1)).1 = x0 at *
              generalize (f r (m + 1)).2.1 = x1 at *
              generalize (f r m).1 = y0' at *
              generalize (f r m).2.1 = y1' at *
              generalize (f r 0).2.2.1 = x2 at *
              generalize (f r 0).2.2.2 = x3 at *
              have hw1 : IntKind.i64.wrap (((m + 1 : Nat) : Int) - 1) = (m : Int) := by rw [IntWalk.i64_in _ (by omega)]; omega
              have hz1 : (((m + 1 : Nat) : Int)).toNat = m + 1 := by omega
              have hz4 : ((m : Nat) : Int).toNat = m := by omega
              have hz2 : ((m + 1 : Nat) : Int) < (k r : Int) := by omega
              have hz5 : ((m : Nat) : Int) < (k r : Int) := by omega
              have hz3 : (0 : Int) ≤ ((m + 1 : Nat) : Int) := by omega
              have hz6 : (0 : Int) ≤ ((m : Nat) : Int) := by omega
              have hz7 : (0 : Int) < ((m + 1 : Nat) : Int) := by omega
              have hk0 : (0 : Int) < (k r : Int) := by omega
              clear hc
              go_wp2_with fail
              have g_s0 := fun dd os => cell_regrown s0 dd os
              have g_s1 := fun dd os => cell_regrown s1 dd os
              have g_s2 := fun dd os => cell_regrown s2 dd os
              have g_s3 := fun dd os => cell_regrown s3 dd os
              have g_t0 := fun dd os => cell_regrown t0 dd os
              have g_t1 := fun dd os => cell_regrown t1 dd os
              have g_t2 := fun dd os => cell_regrown t2 dd os
              have g_t3 := fun dd os => cell_regrown t3 dd os
              have g_z2 := fun dd os => cell_regrown z2 dd os
              have g_z3 := fun dd os => cell_regrown z3 dd os
              have q0 : Hid (∀ dd os, Calls Tryz.prog 19 #[vl x0 x1 x2 x3] (Go.Sort.grow (redrawn wr dd) os) fun ed w_ => ed = .returned (.bool true) ∧ ∃ p : Regrown, w_ = Go.Sort.grow (redrawn wr p.d) p.os) := Lib.hid (fun dd os => Calls.regrown_of (HRI.out (Go.Sort.grow (redrawn wr dd) os)))
              have q1 : Hid (∀ dd os, Calls Tryz.prog 28 #[vl y0' y1' x2 x3] (Go.Sort.grow (redrawn wr dd) os) fun ed w_ => ed = .returned (rt N D) ∧ ∃ p : Regrown, w_ = Go.Sort.grow (redrawn wr p.d) p.os) := Lib.hid (fun dd os => Calls.regrown_of (HL1.out (Go.Sort.grow (redrawn wr dd) os) (hR.below (below_two (below_two hBW hBi) (below_regrown wr dd os)))))
              have q2 : Hid (∀ dd os, Calls Tryz.prog 28 #[vl x0 x1 x2 x3] (Go.Sort.grow (redrawn wr dd) os) fun ed w_ => ed = .returned (rt N' D') ∧ ∃ p : Regrown, w_ = Go.Sort.grow (redrawn wr p.d) p.os) := Lib.hid (fun dd os => Calls.regrown_of (HL2.out (Go.Sort.grow (redrawn wr dd) os) (hR.below (below_two (below_two hBW hBi) (below_regrown wr dd os)))))
              have q3 : Hid (∀ dd os, Calls Tryz.prog 31 #[rt N D, rt N' D'] (Go.Sort.grow (redrawn wr dd) os) fun ed w_ => ed = .returned (.int .i64 c) ∧ ∃ p : Regrown, w_ = Go.Sort.grow (redrawn wr p.d) p.os) := Lib.hid (fun dd os => Calls.regrown_of (HL3.out (Go.Sort.grow (redrawn wr dd) os)))
              refine wp_region_quiet_below (by kernel_rfl) (by kernel_rfl) ?_
              repeat (go_big_quiet_step (first | (go_at_call 19; exact q0.out _ _) | (go_at_call_of 28 y0'; exact q1.out _ _) | (go_at_call_of 28 x0; exact q2.out _ _) | (go_at_call 31; exact q3.out _ _)))
              refine wpQuiet_nil ?_
              intro _ hw'
              obtain ⟨⟨dq, osq⟩, hw''⟩ := hw'
              subst hw''
              clear g_s0 g_s1 g_s2 g_s3 g_t0 g_t1 g_t2 g_t3 g_z2 g_z3
              clear q0 q1 q2 q3
              have hb_wj := below_regrown wr dq osq
              generalize Go.Sort.grow (redrawn wr dq) osq = wj at *
              go_wp2
              go_roundw
              case rel => exact ⟨m + 1 + 1, by go_num, by omega, below_two hBi hb_wj⟩
              case measure => simp [intOf]; omega
          · obtain rfl : i = k r := by omega
            replace x0 := cell_later hBi x0
            replace x1 := cell_later hBi x1
            replace hBW := below_two hBW hBi
            replace hBr := below_two hBr hBi
            obtain ⟨_, _, e1, hc⟩ := HROW.out.later hBi
            cases e1
            clear hBi
            rcases HL.out.find with ⟨hone, hfd⟩ | hfd
            · have HFD := Lib.hid hfd
              clear hfd
              have hone' : ((k r : Int) != 1) = false := by simp; omega
              obtain ⟨s0, s1, s2, s3⟩ := hc 0 (by omega)
              generalize (f r 0).1 = x0 at *
              generalize (f r 0).2.1 = x1 at *
              generalize (f r 0).2.2.1 = x2 at *
              generalize (f r 0).2.2.2 = x3 at *
              simp only [Nat.zero_mul, Nat.zero_add] at s0 s1 s2 s3
              clear hc
              go_wp2_with fail
              refine (HFD.out _ (hR.below hBW)).mono ?_
              rintro ed w7 ⟨rfl, hb⟩
              replace s0 := cell_later hb s0
              replace s1 := cell_later hb s1
              replace s2 := cell_later hb s2
              replace s3 := cell_later hb s3
              replace hBW := below_two hBW hb
              replace hBr := below_two hBr hb
              clear hb
              go_wp2_with fail
              have e0 : (w7.alloc (.cells #[.int .i64 x0, .int .i64 x1, .int .i64 x2, .int .i64 x3] 23)).cell? ⟨w7.heap.size, 0, none⟩ = some (.int .i64 x0) := by go_simp
              have e1 : (w7.alloc (.cells #[.int .i64 x0, .int .i64 x1, .int .i64 x2, .int .i64 x3] 23)).cell? ⟨w7.heap.size, 1, none⟩ = some (.int .i64 x1) := by go_simp
              have e2 : (w7.alloc (.cells #[.int .i64 x0, .int .i64 x1, .int .i64 x2, .int .i64 x3] 23)).cell? ⟨w7.heap.size, 2, none⟩ = some (.int .i64 x2) := by go_simp
              have e3 : (w7.alloc (.cells #[.int .i64 x0, .int .i64 x1, .int .i64 x2, .int .i64 x3] 23)).cell? ⟨w7.heap.size, 3, none⟩ = some (.int .i64 x3) := by go_simp
              replace s0 := alloc_cell (o := .cells #[.int .i64 x0, .int .i64 x1, .int .i64 x2, .int .i64 x3] 23) s0
              replace s1 := alloc_cell (o := .cells #[.int .i64 x0, .int .i64 x1, .int .i64 x2, .int .i64 x3] 23) s1
              replace s2 := alloc_cell (o := .cells #[.int .i64 x0, .int .i64 x1, .int .i64 x2, .int .i64 x3] 23) s2
              replace s3 := alloc_cell (o := .cells #[.int .i64 x0, .int .i64 x1, .int .i64 x2, .int .i64 x3] 23) s3
              replace hBW := alloc_below (o := .cells #[.int .i64 x0, .int .i64 x1, .int .i64 x2, .int .i64 x3] 23) hBW
              replace hBr := alloc_below (o := .cells #[.int .i64 x0, .int .i64 x1, .int .i64 x2, .int .i64 x3] 23) hBr
              generalize w7.alloc (.cells #[.int .i64 x0, .int .i64 x1, .int .i64 x2, .int .i64 x3] 23) = w8 at *
              generalize w7.heap.size = KF at *
              have g_e0 := fun dd os => cell_regrown e0 dd os
              have g_e1 := fun dd os => cell_regrown e1 dd os
              have g_e2 := fun dd os => cell_regrown e2 dd os
              have g_e3 := fun dd os => cell_regrown e3 dd os
              have g_s0 := fun dd os => cell_regrown s0 dd os
              have g_s1 := fun dd os => cell_regrown s1 dd os
              have g_s2 := fun dd os => cell_regrown s2 dd os
              have g_s3 := fun dd os => cell_regrown s3 dd os
              refine wp_region_quiet_below (by kernel_rfl) (by kernel_rfl) ?_
              repeat (go_big_quiet_step (first | fail))
              refine wpQuiet_nil ?_
              intro _ hw'
              obtain ⟨⟨dq, osq⟩, hw''⟩ := hw'
              subst hw''
              clear g_e0 g_e1 g_e2 g_e3 g_s0 g_s1 g_s2 g_s3
              have hb_w9 := below_regrown w8 dq osq
              generalize Go.Sort.grow (redrawn w8 dq) osq = w9 at *
              go_wp2
              go_roundw
              case rel => exact ⟨r + 1, by go_num, by omega, below_two hBr hb_w9⟩
              case measure => simp [intOf]; omega
            · have HFD := Lib.hid hfd
              clear hfd
              clear hc
              go_wp2_with fail
              refine (HFD.out _ (hR.below hBW)).mono ?_
              rintro ed w7 ⟨rfl, hb⟩
              replace hBW := below_two hBW hb
              replace hBr := below_two hBr hb
              clear hb
              go_wp2_with fail
              have e0 : (w7.alloc (.cells #[.int .i64 0, .int .i64 0, .int .i64 0, .int .i64 0] 23)).cell? ⟨w7.heap.size, 0, none⟩ = some (.int .i64 0) := by go_simp
              have e1 : (w7.alloc (.cells #[.int .i64 0, .int .i64 0, .int .i64 0, .int .i64 0] 23)).cell? ⟨w7.heap.size, 1, none⟩ = some (.int .i64 0) := by go_simp
              have e2 : (w7.alloc (.cells #[.int .i64 0, .int .i64 0, .int .i64 0, .int .i64 0] 23)).cell? ⟨w7.heap.size, 2, none⟩ = some (.int .i64 0) := by go_simp
              have e3 : (w7.alloc (.cells #[.int .i64 0, .int .i64 0, .int .i64 0, .int .i64 0] 23)).cell? ⟨w7.heap.size, 3, none⟩ = some (.int .i64 0) := by go_simp
              replace hBW := alloc_below (o := .cells #[.int .i64 0, .int .i64 0, .int .i64 0, .int .i64 0] 23) hBW
              replace hBr := alloc_below (o := .cells #[.int .i64 0, .int .i64 0, .int .i64 0, .int .i64 0] 23) hBr
              generalize w7.alloc (.cells #[.int .i64 0, .int .i64 0, .int .i64 0, .int .i64 0] 23) = w8 at *
              generalize w7.heap.size = KF at *
              have g_e0 := fun dd os => cell_regrown e0 dd os
              have g_e1 := fun dd os => cell_regrown e1 dd os
              have g_e2 := fun dd os => cell_regrown e2 dd os
              have g_e3 := fun dd os => cell_regrown e3 dd os
              refine wp_region_quiet_below (by kernel_rfl) (by kernel_rfl) ?_
              repeat (go_big_quiet_step (first | fail))
              refine wpQuiet_nil ?_
              intro _ hw'
              obtain ⟨⟨dq, osq⟩, hw''⟩ := hw'
              subst hw''
              clear g_e0 g_e1 g_e2 g_e3
              have hb_w9 := below_regrown w8 dq osq
              generalize Go.Sort.grow (redrawn w8 dq) osq = w9 at *
              go_wp2
              go_roundw
              case rel => exact ⟨r + 1, by go_num, by omega, below_two hBr hb_w9⟩
              case measure => simp [intOf]; omega
    · obtain rfl : r = 4 := by omega
      have l0 := cell_later hBr c_l_0
      have l1 := cell_later hBr c_l_1
      have hBW := below_two hB2 hBr
      clear HQ HTab c_l_0 c_l_1 hBr hB2 z_t z_l
      go_wp2_with fail
      refine (HS.out _ (hR.below hBW)).mono ?_
      rintro ed w5 ⟨rfl, hb⟩
      replace l0 := cell_later hb l0
      replace l1 := cell_later hb l1
      replace hBW := below_two hBW hb
      clear hb
      go_wp2_with fail
      refine (sum_nil _).mono ?_
      rintro ed w6 ⟨rfl, hb⟩
      replace l0 := cell_later hb l0
      replace l1 := cell_later hb l1
      replace hBW := below_two hBW hb
      clear hb
      have zl := World.block_lt_of_cell? _ _ l0
      simp only at zl
      go_wp2
      go_ret
      exact ⟨rfl, alloc_below hBW⟩

set_option maxRecDepth 100000 in
set_option maxHeartbeats 4000000 in
theorem valueSplits_yes (l e : Int) (w : World) (hR : Vars w) (il : Rat.I64 l) (p u : Int) (HP : Hid (pickS l 4096 = p)) (hu : IntKind.i64.wrap (1 + p) = u) (A B X Y : Nat → Int) (f : Nat → Nat → Quad) (k : Nat → Nat) (HQ : Hid (∀ r, r < 4 → IntKind.i64.wrap (u * b0 r) = A r ∧ IntKind.i64.wrap (64 * b1 r) = B r ∧ Rat.I64 (A r) ∧ Rat.I64 (B r) ∧ Rat.ofN (A r) (B r) = X r ∧ Rat.ofD (A r) (B r) = Y r ∧ Rat.ofE (A r) (B r) = 0 ∧ Lng (X r) (Y r) (f r) (k r))) (m : Nat) (g : Nat → Quad) (HS : Hid (∀ w, Vars w → Calls Tryz.prog 30 #[rt l e] w fun ed w' => (∃ v, ed = .returned (.tuple #[v, .int .i64 0]) ∧ Row w' v g m) ∧ Below w.heap.size w w')) (HT : Hid (∀ w v, Vars w → Row w v g m → Calls Tryz.prog 26 #[v] w fun ed w' => ed = .returned (.tuple #[rt l e, .bool true]) ∧ Below w.heap.size w w')) :
    Calls Tryz.prog 7 #[rt l e] w fun ed w' => ed = .returned (.bool true) ∧ Below w.heap.size w w' := by
  have hgR := guardR
  have hgV := guardV
  have heR := eql_rt
  have heV := eql_vl
  have hnR := neq_rt
  have hnV := neq_vl
  have hsR := eqR_self
  have hsV := eqV_self
  have hB0 : Below w.heap.size w w := Below.refl _ _
  go_enter Tryz.func7, Tryz.ntmps7
  go_wp2_with fail
  have hR' := hR.below (hB0.alloc hB0.size (.cells #[.int .i64 l, .int .i64 e] 25))
  refine (examples_any _ hR').mono ?_
  rintro e w1 ⟨rfl, hb1⟩
  clear hR'
  have hs1 : Below w.heap.size w w1 := Below.trans (by repeat (first | exact Below.refl _ _ | refine Below.alloc ?_ (by simp <;> omega) _)) (hb1.mono (by simp <;> omega))
  have c_l_0 : w1.cell? ⟨w.heap.size, 0, none⟩ = some (.int .i64 l) := (hb1.cell (by simp <;> omega)).trans (by go_simp)
  have c_l_1 : w1.cell? ⟨w.heap.size, 1, none⟩ = some (.int .i64 e) := (hb1.cell (by simp <;> omega)).trans (by go_simp)
  have z_l := World.block_lt_of_cell? _ _ c_l_0
  have hB1 := below_two hB0 hs1
  clear hB0 hs1 hb1
  go_wp2_with fail
  have hs2 : Below w1.heap.size w1 (w1.alloc (.cells #[.int .i64 1, .int .i64 1, .int .i64 2, .int .i64 3, .int .i64 4, .int .i64 5, .int .i64 4, .int .i64 7] 48)) := by repeat (first | exact Below.refl _ _ | refine Below.alloc ?_ (by simp <;> omega) _)
  replace c_l_0 := cell_later hs2 c_l_0
  replace c_l_1 := cell_later hs2 c_l_1
  have c_t_0 : (w1.alloc (.cells #[.int .i64 1, .int .i64 1, .int .i64 2, .int .i64 3, .int .i64 4, .int .i64 5, .int .i64 4, .int .i64 7] 48)).cell? ⟨w1.heap.size, 0, none⟩ = some (.int .i64 1) := by go_simp
  have c_t_1 : (w1.alloc (.cells #[.int .i64 1, .int .i64 1, .int .i64 2, .int .i64 3, .int .i64 4, .int .i64 5, .int .i64 4, .int .i64 7] 48)).cell? ⟨w1.heap.size, 1, none⟩ = some (.int .i64 1) := by go_simp
  have c_t_2 : (w1.alloc (.cells #[.int .i64 1, .int .i64 1, .int .i64 2, .int .i64 3, .int .i64 4, .int .i64 5, .int .i64 4, .int .i64 7] 48)).cell? ⟨w1.heap.size, 2, none⟩ = some (.int .i64 2) := by go_simp
  have c_t_3 : (w1.alloc (.cells #[.int .i64 1, .int .i64 1, .int .i64 2, .int .i64 3, .int .i64 4, .int .i64 5, .int .i64 4, .int .i64 7] 48)).cell? ⟨w1.heap.size, 3, none⟩ = some (.int .i64 3) := by go_simp
  have c_t_4 : (w1.alloc (.cells #[.int .i64 1, .int .i64 1, .int .i64 2, .int .i64 3, .int .i64 4, .int .i64 5, .int .i64 4, .int .i64 7] 48)).cell? ⟨w1.heap.size, 4, none⟩ = some (.int .i64 4) := by go_simp
  have c_t_5 : (w1.alloc (.cells #[.int .i64 1, .int .i64 1, .int .i64 2, .int .i64 3, .int .i64 4, .int .i64 5, .int .i64 4, .int .i64 7] 48)).cell? ⟨w1.heap.size, 5, none⟩ = some (.int .i64 5) := by go_simp
  have c_t_6 : (w1.alloc (.cells #[.int .i64 1, .int .i64 1, .int .i64 2, .int .i64 3, .int .i64 4, .int .i64 5, .int .i64 4, .int .i64 7] 48)).cell? ⟨w1.heap.size, 6, none⟩ = some (.int .i64 4) := by go_simp
  have c_t_7 : (w1.alloc (.cells #[.int .i64 1, .int .i64 1, .int .i64 2, .int .i64 3, .int .i64 4, .int .i64 5, .int .i64 4, .int .i64 7] 48)).cell? ⟨w1.heap.size, 7, none⟩ = some (.int .i64 7) := by go_simp
  have hB2 := below_two hB1 hs2
  clear hB1 hs2
  have y2_l := z_l
  generalize (w1.alloc (.cells #[.int .i64 1, .int .i64 1, .int .i64 2, .int .i64 3, .int .i64 4, .int .i64 5, .int .i64 4, .int .i64 7] 48)) = w2 at *
  clear z_l
  have z_l := World.block_lt_of_cell? _ _ c_l_0
  have z_t := World.block_lt_of_cell? _ _ c_t_0
  have hTab : ∀ r, r < 4 → w2.cell? ⟨w1.heap.size, r * 2, none⟩ = some (.int .i64 (b0 r)) ∧ w2.cell? ⟨w1.heap.size, r * 2 + 1, none⟩ = some (.int .i64 (b1 r)) := by
    intro r hr
    match r, hr with
    | 0, _ => exact ⟨c_t_0, c_t_1⟩
    | 1, _ => exact ⟨c_t_2, c_t_3⟩
    | 2, _ => exact ⟨c_t_4, c_t_5⟩
    | 3, _ => exact ⟨c_t_6, c_t_7⟩
  have HTab := Lib.hid hTab
  clear hTab c_t_0 c_t_1 c_t_2 c_t_3 c_t_4 c_t_5 c_t_6 c_t_7
  simp only at z_t z_l
  go_loopw [28] (fun a wr => CntRel 4 w2 a wr) (fun a _ => (4 - intOf a).toNat)
  case atStart => exact ⟨0, rfl, by omega, Below.refl _ _⟩
  case round =>
    obtain ⟨r, rfl, hr4, hBr⟩ := hrel
    by_cases hr : r < 4
    · obtain ⟨qa, qb, qc, qd, qe, qf, qg, hL⟩ := HQ.out r hr
      have HL := Lib.hid hL
      have HO := Lib.hid (And.intro qe (And.intro qf qg))
      clear hL qe qf qg
      obtain ⟨t0, t1⟩ := HTab.out r hr
      replace t0 := cell_later hBr t0
      replace t1 := cell_later hBr t1
      have l0 := cell_later hBr c_l_0
      generalize b0 r = y0 at *
      generalize b1 r = y1 at *
      generalize A r = a0 at *
      generalize B r = a1 at *
      generalize X r = xN at *
      generalize Y r = xD at *
      have zl := World.block_lt_of_cell? _ _ l0
      go_upto_region 7 with fail
      have k0 : (wr.alloc (.cells #[.int .i64 y0, .int .i64 y1] 48)).cell? ⟨wr.heap.size, 0, none⟩ = some (.int .i64 y0) := by go_simp
      have k1 : (wr.alloc (.cells #[.int .i64 y0, .int .i64 y1] 48)).cell? ⟨wr.heap.size, 1, none⟩ = some (.int .i64 y1) := by go_simp
      replace l0 := alloc_cell (o := .cells #[.int .i64 y0, .int .i64 y1] 48) l0
      replace hBr := alloc_below (o := .cells #[.int .i64 y0, .int .i64 y1] 48) hBr
      clear t0 t1 zl
      generalize wr.alloc (.cells #[.int .i64 y0, .int .i64 y1] 48) = wa at *
      generalize wr.heap.size = K at *
      have zl := World.block_lt_of_cell? _ _ l0
      have zk := World.block_lt_of_cell? _ _ k0
      have za := hBr.size
      simp only at zl zk
      go_cut [6, 7] (fun p _ wx => AtR xN xD w2 p wx)
      case first =>
        have RA : Hid (∀ u, Below (wa.alloc (.cells #[.int .i64 0, .int .i64 0] 25)).drew.heap.size (wa.alloc (.cells #[.int .i64 0, .int .i64 0] 25)).drew u → u.cell? ⟨wa.heap.size, 0, none⟩ = some (.int .i64 0) ∧ u.cell? ⟨wa.heap.size, 1, none⟩ = some (.int .i64 0) ∧ u.frozen? ⟨wa.heap.size, 0, none⟩ = false ∧ u.frozen? ⟨wa.heap.size, 1, none⟩ = false ∧ Below w2.heap.size w2 u) := Lib.hid (fun u hq => by
          have e0 : (wa.alloc (.cells #[.int .i64 0, .int .i64 0] 25)).drew.cell? ⟨wa.heap.size, 0, none⟩ = some (.int .i64 0) := cell_drew (by go_simp)
          have e1 : (wa.alloc (.cells #[.int .i64 0, .int .i64 0] 25)).drew.cell? ⟨wa.heap.size, 1, none⟩ = some (.int .i64 0) := cell_drew (by go_simp)
          exact ⟨cell_later hq e0, cell_later hq e1, frozen_later hq e0 (frozen_drew (by go_simp)), frozen_later hq e1 (frozen_drew (by go_simp)), below_two (alloc_below hBr).drew hq⟩)
        have RB : Hid (∀ u, Below wa.drew.heap.size wa.drew u → u.cell? ⟨w.heap.size, 0, none⟩ = some (.int .i64 l) ∧ u.cell? ⟨K, 0, none⟩ = some (.int .i64 y0) ∧ u.cell? ⟨K, 1, none⟩ = some (.int .i64 y1) ∧ Below w2.heap.size w2 u) := Lib.hid (fun u hq => ⟨cell_later hq (cell_drew l0), cell_later hq (cell_drew k0), cell_later hq (cell_drew k1), below_two hBr.drew hq⟩)
        clear hgR hgV heR heV hnR hnV hsR hsV HL HTab HQ HS hR c_l_0 c_l_1 hB2 HT
        go_region_held3 (fun w' => w'.cell? ⟨w.heap.size, 0, none⟩ = some (.int .i64 l) ∧ w'.cell? ⟨K, 0, none⟩ = some (.int .i64 y0) ∧ w'.cell? ⟨K, 1, none⟩ = some (.int .i64 y1) ∧ Below w2.heap.size w2 w')
          (((try go_split_ands); refine ⟨?_, ?_, ?_, ?_⟩ <;> first | with_reducible assumption | (with_reducible refine cell_later hq ?_; with_reducible assumption) | (with_reducible refine below_two ?_ hq; with_reducible assumption) | (with_reducible refine alloc_cell ?_; with_reducible assumption) | (with_reducible refine alloc_below ?_; with_reducible assumption) | (with_reducible refine set_far ?_ (set_far ?_ ?_); omega; omega; with_reducible assumption) | (with_reducible refine put2_below ?_ ?_; with_reducible assumption; omega) | with_reducible exact cell_drew l0 | with_reducible exact cell_drew k0 | with_reducible exact cell_drew k1 | with_reducible exact hBr.drew | with_reducible exact cell_drew (alloc_cell l0) | with_reducible exact cell_drew (alloc_cell k0) | with_reducible exact cell_drew (alloc_cell k1) | with_reducible exact (alloc_below hBr).drew))
          (first
            | (go_at_call 23; refine (pick_any l 4096 _ il (by decide) (by decide)).mono ?_; rintro ed wx ⟨rfl, rfl⟩; rw [HP.out])
            | (go_at_call 29; first
                | (with_reducible refine (of_any a0 a1 wa.drew qc qd).mono ?_; rintro ed u5 ⟨rfl, hq⟩; rw [HO.out.1, HO.out.2.1, HO.out.2.2]; obtain ⟨n_l, n_0, n_1, hb5⟩ := RB.out _ hq)
                | (with_reducible refine (of_any a0 a1 (wa.alloc (.cells #[.int .i64 0, .int .i64 0] 25)).drew qc qd).mono ?_; rintro ed u5 ⟨rfl, hq⟩; rw [HO.out.1, HO.out.2.1, HO.out.2.2]; obtain ⟨r_0, r_1, f_0, f_1, hb5⟩ := RA.out _ hq)))
        all_goals (first
          | (go_wp2_with fail; go_meet; case rel => exact ⟨_, rfl, (put2_of r_0 r_1).1, (put2_of r_0 r_1).2, put2_below hb5 (by omega)⟩)
          | (go_wp2_with fail; go_meet; case rel => exact ⟨_, rfl, by go_simp, by go_simp, alloc_below hb5⟩))
      case rest =>
        obtain ⟨A1, rfl, x0, x1, hBx⟩ := hcut
        clear hBr l0 k0 k1 zl zk za qa qb qc qd HO
        have hBr := hBx
        have hBW := below_two hB2 hBx
        clear hBx
        go_wp2_with fail
        refine (HL.out.split _ (hR.below hBW)).mono ?_
        rintro ed w5 ⟨⟨sv, rfl, hrow⟩, hb⟩
        have HROW := Lib.hid hrow
        clear hrow
        replace x0 := cell_later hb x0
        replace x1 := cell_later hb x1
        replace hBW := below_two hBW hb
        replace hBr := below_two hBr hb
        clear hb
        go_wp2_with fail
        refine (HL.out.sum _ _ (hR.below hBW) HROW.out).mono ?_
        rintro ed w6 ⟨rfl, hb⟩
        replace HROW := Lib.hid (HROW.out.later hb)
        replace x0 := cell_later hb x0
        replace x1 := cell_later hb x1
        replace hBW := below_two hBW hb
        replace hBr := below_two hBr hb
        clear hb
        have hk1 := HL.out.k1
        have hk2 := HL.out.k2
        have hkz : ((k r : Int) == 0) = false := by simp; omega
        obtain ⟨g, cap, rfl, _⟩ := HROW.out
        replace HROW := Lib.hid (HROW.out.later ((Below.refl w6.heap.size w6).alloc (Nat.le_refl _) (.cells #[.int .i64 xN, .int .i64 xD] 25)))
        have X0 := Lib.hid (alloc_cell (o := .cells #[.int .i64 xN, .int .i64 xD] 25) x0)
        have X1 := Lib.hid (alloc_cell (o := .cells #[.int .i64 xN, .int .i64 xD] 25) x1)
        have HBW := Lib.hid (alloc_below (o := .cells #[.int .i64 xN, .int .i64 xD] 25) hBW)
        have HBR := Lib.hid (alloc_below (o := .cells #[.int .i64 xN, .int .i64 xD] 25) hBr)
        clear hBW hBr
        have zx := World.block_lt_of_cell? _ _ x0
        simp only at zx
        go_wp2_with fail
        have x0 := X0.out
        have x1 := X1.out
        have hBW := HBW.out
        have hBr := HBR.out
        clear X0 X1 HBW HBR zx
        generalize w6.alloc (.cells #[.int .i64 xN, .int .i64 xD] 25) = w6' at *
        generalize w6.heap.size = KS at *
        go_loopw [12] (fun a wr => CntRel (k r) w6' a wr) (fun a _ => ((k r : Int) - intOf a).toNat)
        case atStart => exact ⟨0, rfl, by omega, Below.refl _ _⟩
        case round =>
          obtain ⟨i, rfl, hi, hBi⟩ := hrel
          by_cases hlt : i < k r
          · obtain ⟨_, _, e1, hc⟩ := HROW.out.later hBi
            cases e1
            clear x0 x1
            rcases i with _ | m
            · obtain ⟨s0, s1, s2, s3⟩ := hc 0 (by omega)
              have HRI := Lib.hid (HL.out.right 0 (by omega))
              generalize (f r 0).1 = x0 at *
              generalize (f r 0).2.1 = x1 at *
              generalize (f r 0).2.2.1 = x2 at *
              generalize (f r 0).2.2.2 = x3 at *
              simp only [Nat.zero_mul, Nat.zero_add] at s0 s1 s2 s3
              have hk0 : (0 : Int) < (k r : Int) := by omega
              clear hc
              go_wp2_with fail
              have g_s0 := fun dd os => cell_regrown s0 dd os
              have g_s1 := fun dd os => cell_regrown s1 dd os
              have g_s2 := fun dd os => cell_regrown s2 dd os
              have g_s3 := fun dd os => cell_regrown s3 dd os
              have q0 : Hid (∀ dd os, Calls Tryz.prog 19 #[vl x0 x1 x2 x3] (Go.Sort.grow (redrawn wr dd) os) fun ed w_ => ed = .returned (.bool true) ∧ ∃ p : Regrown, w_ = Go.Sort.grow (redrawn wr p.d) p.os) := Lib.hid (fun dd os => Calls.regrown_of (HRI.out (Go.Sort.grow (redrawn wr dd) os)))
              refine wp_region_quiet_below (by kernel_rfl) (by kernel_rfl) ?_
              repeat (go_big_quiet_step (first | (go_at_call 19; exact q0.out _ _)))
              refine wpQuiet_nil ?_
              intro _ hw'
              obtain ⟨⟨dq, osq⟩, hw''⟩ := hw'
              subst hw''
              clear g_s0 g_s1 g_s2 g_s3
              clear q0
              have hb_wj := below_regrown wr dq osq
              generalize Go.Sort.grow (redrawn wr dq) osq = wj at *
              go_wp2
              go_roundw
              case rel => exact ⟨1, by go_num, by omega, below_two hBi hb_wj⟩
              case measure => simp [intOf]; omega
            · obtain ⟨s0, s1, s2, s3⟩ := hc (m + 1) (by omega)
              obtain ⟨t0, t1, t2, t3⟩ := hc m (by omega)
              obtain ⟨_, _, z2, z3⟩ := hc 0 (by omega)
              simp only [Nat.zero_mul, Nat.zero_add] at z2 z3
              have HRI := Lib.hid (HL.out.right (m + 1) (by omega))
              obtain ⟨N, D, N', D', c, hc0, hl1, hl2, hl3⟩ := HL.out.less m (by omega)
              have HL1 := Lib.hid hl1
              have HL2 := Lib.hid hl2
              have HL3 := Lib.hid hl3
              clear hl1 hl2 hl3
              obtain ⟨k1, k2⟩ := HL.out.kind (m + 1) (by omega)
              obtain ⟨k3, k4⟩ := HL.out.kind m (by omega)
              rw [k1] at s2 HRI HL2
              rw [k2] at s3 HRI HL2
              rw [k3] at t2 HL1
              rw [k4] at t3 HL1
              clear k1 k2 k3 k4
              generalize (f r (m + 1)).1 = x0 at *
              generalize (f r (m + 1)).2.1 = x1 at *
              generalize (f r m).1 = y0' at *
              generalize (f r m).2.1 = y1' at *
              generalize (f r 0).2.2.1 = x2 at *
              generalize (f r 0).2.2.2 = x3 at *
              have hw1 : IntKind.i64.wrap (((m + 1 : Nat) : Int) - 1) = (m : Int) := by rw [IntWalk.i64_in _ (by omega)]; omega
              have hz1 : (((m + 1 : Nat) : Int)).toNat = m + 1 := by omega
              have hz4 : ((m : Nat) : Int).toNat = m := by omega
              have hz2 : ((m + 1 : Nat) : Int) < (k r : Int) := by omega
              have hz5 : ((m : Nat) : Int) < (k r : Int) := by omega
              have hz3 : (0 : Int) ≤ ((m + 1 : Nat) : Int) := by omega
              have hz6 : (0 : Int) ≤ ((m : Nat) : Int) := by omega
              have hz7 : (0 : Int) < ((m + 1 : Nat) : Int) := by omega
              have hk0 : (0 : Int) < (k r : Int) := by omega
              clear hc
              go_wp2_with fail
              have g_s0 := fun dd os => cell_regrown s0 dd os
              have g_s1 := fun dd os => cell_regrown s1 dd os
              have g_s2 := fun dd os => cell_regrown s2 dd os
              have g_s3 := fun dd os => cell_regrown s3 dd os
              have g_t0 := fun dd os => cell_regrown t0 dd os
              have g_t1 := fun dd os => cell_regrown t1 dd os
              have g_t2 := fun dd os => cell_regrown t2 dd os
              have g_t3 := fun dd os => cell_regrown t3 dd os
              have g_z2 := fun dd os => cell_regrown z2 dd os
              have g_z3 := fun dd os => cell_regrown z3 dd os
              have q0 : Hid (∀ dd os, Calls Tryz.prog 19 #[vl x0 x1 x2 x3] (Go.Sort.grow (redrawn wr dd) os) fun ed w_ => ed = .returned (.bool true) ∧ ∃ p : Regrown, w_ = Go.Sort.grow (redrawn wr p.d) p.os) := Lib.hid (fun dd os => Calls.regrown_of (HRI.out (Go.Sort.grow (redrawn wr dd) os)))
              have q1 : Hid (∀ dd os, Calls Tryz.prog 28 #[vl y0' y1' x2 x3] (Go.Sort.grow (redrawn wr dd) os) fun ed w_ => ed = .returned (rt N D) ∧ ∃ p : Regrown, w_ = Go.Sort.grow (redrawn wr p.d) p.os) := Lib.hid (fun dd os => Calls.regrown_of (HL1.out (Go.Sort.grow (redrawn wr dd) os) (hR.below (below_two (below_two hBW hBi) (below_regrown wr dd os)))))
              have q2 : Hid (∀ dd os, Calls Tryz.prog 28 #[vl x0 x1 x2 x3] (Go.Sort.grow (redrawn wr dd) os) fun ed w_ => ed = .returned (rt N' D') ∧ ∃ p : Regrown, w_ = Go.Sort.grow (redrawn wr p.d) p.os) := Lib.hid (fun dd os => Calls.regrown_of (HL2.out (Go.Sort.grow (redrawn wr dd) os) (hR.below (below_two (below_two hBW hBi) (below_regrown wr dd os)))))
              have q3 : Hid (∀ dd os, Calls Tryz.prog 31 #[rt N D, rt N' D'] (Go.Sort.grow (redrawn wr dd) os) fun ed w_ => ed = .returned (.int .i64 c) ∧ ∃ p : Regrown, w_ = Go.Sort.grow (redrawn wr p.d) p.os) := Lib.hid (fun dd os => Calls.regrown_of (HL3.out (Go.Sort.grow (redrawn wr dd) os)))
              refine wp_region_quiet_below (by kernel_rfl) (by kernel_rfl) ?_
              repeat (go_big_quiet_step (first | (go_at_call 19; exact q0.out _ _) | (go_at_call_of 28 y0'; exact q1.out _ _) | (go_at_call_of 28 x0; exact q2.out _ _) | (go_at_call 31; exact q3.out _ _)))
              refine wpQuiet_nil ?_
              intro _ hw'
              obtain ⟨⟨dq, osq⟩, hw''⟩ := hw'
              subst hw''
              clear g_s0 g_s1 g_s2 g_s3 g_t0 g_t1 g_t2 g_t3 g_z2 g_z3
              clear q0 q1 q2 q3
              have hb_wj := below_regrown wr dq osq
              generalize Go.Sort.grow (redrawn wr dq) osq = wj at *
              go_wp2
              go_roundw
              case rel => exact ⟨m + 1 + 1, by go_num, by omega, below_two hBi hb_wj⟩
              case measure => simp [intOf]; omega
          · obtain rfl : i = k r := by omega
            replace x0 := cell_later hBi x0
            replace x1 := cell_later hBi x1
            replace hBW := below_two hBW hBi
            replace hBr := below_two hBr hBi
            obtain ⟨_, _, e1, hc⟩ := HROW.out.later hBi
            cases e1
            clear hBi
            rcases HL.out.find with ⟨hone, hfd⟩ | hfd
            · have HFD := Lib.hid hfd
              clear hfd
              have hone' : ((k r : Int) != 1) = false := by simp; omega
              obtain ⟨s0, s1, s2, s3⟩ := hc 0 (by omega)
              generalize (f r 0).1 = x0 at *
              generalize (f r 0).2.1 = x1 at *
              generalize (f r 0).2.2.1 = x2 at *
              generalize (f r 0).2.2.2 = x3 at *
              simp only [Nat.zero_mul, Nat.zero_add] at s0 s1 s2 s3
              clear hc
              go_wp2_with fail
              refine (HFD.out _ (hR.below hBW)).mono ?_
              rintro ed w7 ⟨rfl, hb⟩
              replace s0 := cell_later hb s0
              replace s1 := cell_later hb s1
              replace s2 := cell_later hb s2
              replace s3 := cell_later hb s3
              replace hBW := below_two hBW hb
              replace hBr := below_two hBr hb
              clear hb
              go_wp2_with fail
              have e0 : (w7.alloc (.cells #[.int .i64 x0, .int .i64 x1, .int .i64 x2, .int .i64 x3] 23)).cell? ⟨w7.heap.size, 0, none⟩ = some (.int .i64 x0) := by go_simp
              have e1 : (w7.alloc (.cells #[.int .i64 x0, .int .i64 x1, .int .i64 x2, .int .i64 x3] 23)).cell? ⟨w7.heap.size, 1, none⟩ = some (.int .i64 x1) := by go_simp
              have e2 : (w7.alloc (.cells #[.int .i64 x0, .int .i64 x1, .int .i64 x2, .int .i64 x3] 23)).cell? ⟨w7.heap.size, 2, none⟩ = some (.int .i64 x2) := by go_simp
              have e3 : (w7.alloc (.cells #[.int .i64 x0, .int .i64 x1, .int .i64 x2, .int .i64 x3] 23)).cell? ⟨w7.heap.size, 3, none⟩ = some (.int .i64 x3) := by go_simp
              replace s0 := alloc_cell (o := .cells #[.int .i64 x0, .int .i64 x1, .int .i64 x2, .int .i64 x3] 23) s0
              replace s1 := alloc_cell (o := .cells #[.int .i64 x0, .int .i64 x1, .int .i64 x2, .int .i64 x3] 23) s1
              replace s2 := alloc_cell (o := .cells #[.int .i64 x0, .int .i64 x1, .int .i64 x2, .int .i64 x3] 23) s2
              replace s3 := alloc_cell (o := .cells #[.int .i64 x0, .int .i64 x1, .int .i64 x2, .int .i64 x3] 23) s3
              replace hBW := alloc_below (o := .cells #[.int .i64 x0, .int .i64 x1, .int .i64 x2, .int .i64 x3] 23) hBW
              replace hBr := alloc_below (o := .cells #[.int .i64 x0, .int .i64 x1, .int .i64 x2, .int .i64 x3] 23) hBr
              generalize w7.alloc (.cells #[.int .i64 x0, .int .i64 x1, .int .i64 x2, .int .i64 x3] 23) = w8 at *
              generalize w7.heap.size = KF at *
              have g_e0 := fun dd os => cell_regrown e0 dd os
              have g_e1 := fun dd os => cell_regrown e1 dd os
              have g_e2 := fun dd os => cell_regrown e2 dd os
              have g_e3 := fun dd os => cell_regrown e3 dd os
              have g_s0 := fun dd os => cell_regrown s0 dd os
              have g_s1 := fun dd os => cell_regrown s1 dd os
              have g_s2 := fun dd os => cell_regrown s2 dd os
              have g_s3 := fun dd os => cell_regrown s3 dd os
              refine wp_region_quiet_below (by kernel_rfl) (by kernel_rfl) ?_
              repeat (go_big_quiet_step (first | fail))
              refine wpQuiet_nil ?_
              intro _ hw'
              obtain ⟨⟨dq, osq⟩, hw''⟩ := hw'
              subst hw''
              clear g_e0 g_e1 g_e2 g_e3 g_s0 g_s1 g_s2 g_s3
              have hb_w9 := below_regrown w8 dq osq
              generalize Go.Sort.grow (redrawn w8 dq) osq = w9 at *
              go_wp2
              go_roundw
              case rel => exact ⟨r + 1, by go_num, by omega, below_two hBr hb_w9⟩
              case measure => simp [intOf]; omega
            · have HFD := Lib.hid hfd
              clear hfd
              clear hc
              go_wp2_with fail
              refine (HFD.out _ (hR.below hBW)).mono ?_
              rintro ed w7 ⟨rfl, hb⟩
              replace hBW := below_two hBW hb
              replace hBr := below_two hBr hb
              clear hb
              go_wp2_with fail
              have e0 : (w7.alloc (.cells #[.int .i64 0, .int .i64 0, .int .i64 0, .int .i64 0] 23)).cell? ⟨w7.heap.size, 0, none⟩ = some (.int .i64 0) := by go_simp
              have e1 : (w7.alloc (.cells #[.int .i64 0, .int .i64 0, .int .i64 0, .int .i64 0] 23)).cell? ⟨w7.heap.size, 1, none⟩ = some (.int .i64 0) := by go_simp
              have e2 : (w7.alloc (.cells #[.int .i64 0, .int .i64 0, .int .i64 0, .int .i64 0] 23)).cell? ⟨w7.heap.size, 2, none⟩ = some (.int .i64 0) := by go_simp
              have e3 : (w7.alloc (.cells #[.int .i64 0, .int .i64 0, .int .i64 0, .int .i64 0] 23)).cell? ⟨w7.heap.size, 3, none⟩ = some (.int .i64 0) := by go_simp
              replace hBW := alloc_below (o := .cells #[.int .i64 0, .int .i64 0, .int .i64 0, .int .i64 0] 23) hBW
              replace hBr := alloc_below (o := .cells #[.int .i64 0, .int .i64 0, .int .i64 0, .int .i64 0] 23) hBr
              generalize w7.alloc (.cells #[.int .i64 0, .int .i64 0, .int .i64 0, .int .i64 0] 23) = w8 at *
              generalize w7.heap.size = KF at *
              have g_e0 := fun dd os => cell_regrown e0 dd os
              have g_e1 := fun dd os => cell_regrown e1 dd os
              have g_e2 := fun dd os => cell_regrown e2 dd os
              have g_e3 := fun dd os => cell_regrown e3 dd os
              refine wp_region_quiet_below (by kernel_rfl) (by kernel_rfl) ?_
              repeat (go_big_quiet_step (first | fail))
              refine wpQuiet_nil ?_
              intro _ hw'
              obtain ⟨⟨dq, osq⟩, hw''⟩ := hw'
              subst hw''
              clear g_e0 g_e1 g_e2 g_e3
              have hb_w9 := below_regrown w8 dq osq
              generalize Go.Sort.grow (redrawn w8 dq) osq = w9 at *
              go_wp2
              go_roundw
              case rel => exact ⟨r + 1, by go_num, by omega, below_two hBr hb_w9⟩
              case measure => simp [intOf]; omega
    · obtain rfl : r = 4 := by omega
      have l0 := cell_later hBr c_l_0
      have l1 := cell_later hBr c_l_1
      have hBW := below_two hB2 hBr
      clear HQ HTab c_l_0 c_l_1 hBr hB2 z_t z_l
      go_wp2_with fail
      refine (HS.out _ (hR.below hBW)).mono ?_
      rintro ed w5 ⟨⟨sv, rfl, hrow⟩, hb⟩
      have HROW := Lib.hid hrow
      clear hrow
      replace l0 := cell_later hb l0
      replace l1 := cell_later hb l1
      replace hBW := below_two hBW hb
      clear hb
      go_wp2_with fail
      refine (HT.out _ _ (hR.below hBW) HROW.out).mono ?_
      rintro ed w6 ⟨rfl, hb⟩
      replace l0 := cell_later hb l0
      replace l1 := cell_later hb l1
      replace hBW := below_two hBW hb
      clear hb
      have zl := World.block_lt_of_cell? _ _ l0
      simp only at zl
      go_wp2
      go_ret
      exact ⟨rfl, alloc_below hBW⟩
end Go.Proofs.YtejiifkenanodaaGreatDoor
