/-
  The contract of the reference's Find.
-/
import Derived.Test.YtejiifkenanodaaGreatDoorValM
namespace Go.Proofs.YtejiifkenanodaaGreatDoor
open Go.RowKit

def GOut (x y : Int) (w : World) (g : Nat) (a : Value) (wr : World) : Prop := ∃ i : Nat, a = .int .i64 (i : Int) ∧ i ≤ 4 ∧ Hid (NoneTo x y (21 * i)) ∧ FMem x y w wr ∧ Hid (RRow wr g)
def GMid (x y : Int) (w : World) (g i : Nat) (a : Value) (wr : World) : Prop := ∃ b : Nat, a = .int .i64 (b : Int) ∧ b ≤ 7 ∧ Hid (NoneTo x y (21 * i + 3 * b)) ∧ FMem x y w wr ∧ Hid (RRow wr g)
def GIn (x y : Int) (w : World) (g i b : Nat) (a : Value) (wr : World) : Prop := ∃ d : Nat, a = .int .i64 (d : Int) ∧ d ≤ 3 ∧ Hid (NoneTo x y (21 * i + 3 * b + d)) ∧ FMem x y w wr ∧ Hid (RRow wr g)

set_option maxRecDepth 100000 in
set_option maxHeartbeats 4000000 in
theorem vrefFind_any (x y : Int) (w : World) :
    Calls Tryz.prog 47 #[rt x y] w fun ed w' => ed = .returned (fv (Val.fnd x y)) ∧ Below w.heap.size w w' := by
  have hgR := guardR
  have heq := eql_rt
  have hB0 : Below w.heap.size w w := Below.refl _ _
  go_enter Tryz.func47, Tryz.ntmps47
  go_wp2_with fail
  refine (refKinds_any _).mono ?_
  rintro e w1 ⟨⟨g, rfl, hrow⟩, hb1⟩
  have hs1 : Below w.heap.size w w1 := Below.trans (by repeat (first | exact Below.refl _ _ | refine Below.alloc ?_ (by simp <;> omega) _)) (hb1.mono (by simp <;> omega))
  have c_l_0 : w1.cell? ⟨w.heap.size, 0, none⟩ = some (.int .i64 x) := (hb1.cell (by simp <;> omega)).trans (by go_simp)
  have c_l_1 : w1.cell? ⟨w.heap.size, 1, none⟩ = some (.int .i64 y) := (hb1.cell (by simp <;> omega)).trans (by go_simp)
  have c_r_0 : w1.cell? ⟨w.heap.size + 1, 0, none⟩ = some (.int .i64 0) := (hb1.cell (by simp <;> omega)).trans (by go_simp)
  have f_r_0 : w1.frozen? ⟨w.heap.size + 1, 0, none⟩ = false := (hb1.frozen (by simp <;> omega)).trans (by go_simp)
  have c_r_1 : w1.cell? ⟨w.heap.size + 1, 1, none⟩ = some (.int .i64 0) := (hb1.cell (by simp <;> omega)).trans (by go_simp)
  have f_r_1 : w1.frozen? ⟨w.heap.size + 1, 1, none⟩ = false := (hb1.frozen (by simp <;> omega)).trans (by go_simp)
  have c_r_2 : w1.cell? ⟨w.heap.size + 1, 2, none⟩ = some (.int .i64 0) := (hb1.cell (by simp <;> omega)).trans (by go_simp)
  have f_r_2 : w1.frozen? ⟨w.heap.size + 1, 2, none⟩ = false := (hb1.frozen (by simp <;> omega)).trans (by go_simp)
  have c_r_3 : w1.cell? ⟨w.heap.size + 1, 3, none⟩ = some (.int .i64 0) := (hb1.cell (by simp <;> omega)).trans (by go_simp)
  have f_r_3 : w1.frozen? ⟨w.heap.size + 1, 3, none⟩ = false := (hb1.frozen (by simp <;> omega)).trans (by go_simp)
  have z_l := World.block_lt_of_cell? _ _ c_l_0
  have z_r := World.block_lt_of_cell? _ _ c_r_0
  have hB1 := below_two hB0 hs1
  clear hB0 hs1 hb1
  have hM : FMem x y w w1 := ⟨c_l_0, c_l_1, c_r_0, c_r_1, c_r_2, c_r_3, f_r_0, f_r_1, f_r_2, f_r_3, hB1⟩
  have HRW := Lib.hid hrow
  clear hrow c_l_0 c_l_1 c_r_0 c_r_1 c_r_2 c_r_3 f_r_0 f_r_1 f_r_2 f_r_3 hB1 z_l z_r
  go_wp2
  go_loopw [5] (fun a wr => GOut x y w g a wr) (fun a _ => (4 - intOf a).toNat)
  case atStart => exact ⟨0, rfl, by omega, Lib.hid (fun j hj => by omega), hM, HRW⟩
  case round =>
    clear hM HRW
    obtain ⟨i, rfl, hi, HN, hM, HRW⟩ := hrel
    by_cases hp : i < 4
    · obtain ⟨n, HKN⟩ : ∃ n, Hid (Val.kN i = n) := ⟨_, Lib.hid rfl⟩
      obtain ⟨e, HKE⟩ : ∃ e, Hid (Val.kE i = e) := ⟨_, Lib.hid rfl⟩
      go_wp2_with fail
      (try rw [show decide ((i : Int) < 4) = true from decide_eq_true (by omega)])
      go_loopw [6] (fun a wr => GMid x y w g i a wr) (fun a _ => (7 - intOf a).toNat)
      case atStart => exact ⟨0, rfl, by omega, Lib.hid HN.out, hM, HRW⟩
      case round =>
        clear hM HRW
        obtain ⟨b, rfl, hb, HN2, hM, HRW⟩ := hrel
        by_cases hb7 : b < 7
        · go_wp2_with fail
          (try rw [show decide ((b : Int) ≤ 6) = true from decide_eq_true (by omega)])
          go_loopw [7] (fun a wr => GIn x y w g i b a wr) (fun a _ => (3 - intOf a).toNat)
          case atStart => exact ⟨0, rfl, by omega, Lib.hid HN2.out, hM, HRW⟩
          case round =>
            clear hM HRW
            obtain ⟨d, rfl, hd, HN3, hM, HRW⟩ := hrel
            by_cases hd3 : d < 3
            · obtain ⟨k2, k3⟩ := HRW.out.cells hp
              rw [HKN.out] at k2
              rw [HKE.out] at k3
              have zg := World.block_lt_of_cell? _ _ k2
              simp only at zg
              go_wp2_with fail
              go_region
              have hs2 : Below wr.heap.size wr (wr.alloc (.cells #[.int .i64 b, .int .i64 d, .int .i64 n, .int .i64 e] 23)).drew := ((Below.refl _ _).alloc (Nat.le_refl _) _).drew
              have hV : V4 b d n e wr.heap.size (wr.alloc (.cells #[.int .i64 b, .int .i64 d, .int .i64 n, .int .i64 e] 23)).drew := V4.later (V4.new wr b d n e 23) (Below.refl _ _).drew
              replace hM := hM.later hs2
              replace HRW := Lib.hid (HRW.out.later hs2)
              clear hs2 k2 k3 zg
              generalize (wr.alloc (.cells #[.int .i64 b, .int .i64 d, .int .i64 n, .int .i64 e] 23)).drew = w2 at *
              generalize wr.heap.size = VB at *
              obtain ⟨v0, v1, v2, v3⟩ := hV
              obtain ⟨X, HX⟩ : ∃ X, Hid (Val.lenN b d n e = X) := ⟨_, Lib.hid rfl⟩
              obtain ⟨Y, HY⟩ : ∃ Y, Hid (Val.lenD b d n e = Y) := ⟨_, Lib.hid rfl⟩
              have HL : Hid (Val.isLen x y (21 * i + 3 * b + d) = eqR X Y x y) := Lib.hid (by rw [isLen_at hb7 hd3, HKN.out, HKE.out, HX.out, HY.out])
              go_wp2_with fail
              refine (vrefLength_any _ _ _ _ _).mono ?_
              rintro ed w3 ⟨rfl, hb3⟩
              rw [HX.out, HY.out]
              generalize Val.lenE b d n e = E at *
              have hV := V4.later (V4.mk v0 v1 v2 v3) hb3
              replace hM := hM.later hb3
              replace HRW := Lib.hid (HRW.out.later hb3)
              clear hb3 v0 v1 v2 v3
              have HRW2 := Lib.hid (HRW.out.later ((Below.refl _ _).alloc (Nat.le_refl _) (.cells #[.int .i64 X, .int .i64 Y] 25)))
              have HM := Lib.hid (hM.later ((Below.refl _ _).alloc (Nat.le_refl _) (.cells #[.int .i64 X, .int .i64 Y] 25)))
              obtain ⟨v0, v1, v2, v3⟩ := hV
              have l0 := hM.l0
              have l1 := hM.l1
              have z0 := World.block_lt_of_cell? _ _ v0
              have z1 := World.block_lt_of_cell? _ _ l0
              cases hE : eqR X Y x y with
              | true =>
                have HB := Lib.hid hM.below
                have f0 := hM.g0
                have f1 := hM.g1
                have f2 := hM.g2
                have f3 := hM.g3
                have z2 := World.block_lt_of_cell? _ _ hM.c0
                have r0 := hM.c0
                have r1 := hM.c1
                have r2 := hM.c2
                have r3 := hM.c3
                have HF : Hid (fv (Val.fnd x y) = .tuple #[vl b d n e, .bool true]) := Lib.hid (by
                  have : Val.fnd x y = 21 * i + 3 * b + d := Val.fst_found (by omega) HN3.out (by rw [HL.out, hE])
                  rw [this, fv_at hp hb7 hd3, HKN.out, HKE.out])
                obtain ⟨m0, m1, m2, m3⟩ := put4_of (x := .int .i64 b) (y := .int .i64 d) (z := .int .i64 n) (u := .int .i64 e) r0 r1 r2 r3
                replace m0 := alloc_cell (o := .cells #[.int .i64 X, .int .i64 Y] 25) m0
                replace m1 := alloc_cell (o := .cells #[.int .i64 X, .int .i64 Y] 25) m1
                replace m2 := alloc_cell (o := .cells #[.int .i64 X, .int .i64 Y] 25) m2
                replace m3 := alloc_cell (o := .cells #[.int .i64 X, .int .i64 Y] 25) m3
                clear hM HRW HRW2 HM
                go_wp2
                rw [HF.out]
                exact bodyPost_ret (v := .tuple #[vl b d n e, .bool true]) (by simp [results, Tryz.results47, go_sem, m0, m1, m2, m3]) rfl ⟨rfl, alloc_below (put4_below HB.out (by omega))⟩
              | false =>
                clear hM HRW
                go_wp2
                go_roundw
                case rel => exact ⟨d + 1, by go_num, by omega, Lib.hid (HN3.out.next (HL.out.trans hE)), HM.out, HRW2⟩
                case measure => simp [intOf]; omega
            · obtain rfl : d = 3 := by omega
              go_wp2
              go_roundw
              case rel => exact ⟨b + 1, by go_num, by omega, Lib.hid (by have := HN3.out; rw [show 21 * i + 3 * (b + 1) = 21 * i + 3 * b + 3 by omega]; exact this), hM, HRW⟩
              case measure => simp [intOf]; omega
        · obtain rfl : b = 7 := by omega
          go_wp2
          go_roundw
          case rel => exact ⟨i + 1, by go_num, by omega, Lib.hid (by have := HN2.out; rw [show 21 * (i + 1) = 21 * i + 3 * 7 by omega]; exact this), hM, HRW⟩
          case measure => simp [intOf]; omega
    · obtain rfl : i = 4 := by omega
      obtain ⟨l0, l1, c0, c1, c2, c3, g0, g1, g2, g3, hB⟩ := hM
      obtain ⟨m0, m1, m2, m3⟩ := put4_of (x := .int .i64 0) (y := .int .i64 0) (z := .int .i64 0) (u := .int .i64 0) c0 c1 c2 c3
      go_wp2
      have hv : Val.fnd x y = 84 := Val.fst_none HN.out
      rw [hv]
      exact bodyPost_ret (v := .tuple #[vl 0 0 0 0, .bool false]) (by simp [results, Tryz.results47, go_sem, m0, m1, m2, m3]) rfl ⟨rfl, put4_below hB (by omega)⟩
end Go.Proofs.YtejiifkenanodaaGreatDoor
