/-
  The contract of value.Find.
-/
import Derived.Test.YtejiifkenanodaaGreatDoorValC
namespace Go.Proofs.YtejiifkenanodaaGreatDoor
open Go.RowKit

theorem index_kinds {i : Nat} (hi : i < 4) (w : World) : (Instr.index 78 (.agg #[.int .i64 0, .int .i64 0, .int .i64 0, .int .i64 0, .int .i64 0, .int .i64 0, .int .i64 3, .int .i64 2, .int .i64 0, .int .i64 0, .int .i64 5, .int .i64 4, .int .i64 0, .int .i64 0, .int .i64 7, .int .i64 4]) (.int .i64 (i : Int))).run Tryz.prog w = .ok (vl 0 0 (Val.kN i) (Val.kE i)) w := by
  obtain rfl | rfl | rfl | rfl : i = 0 ∨ i = 1 ∨ i = 2 ∨ i = 3 := by omega
  all_goals kernel_rfl
/-- No value ahead of the k-th is so long. -/
def NoneTo (x y : Int) (k : Nat) : Prop := ∀ j, j < k → Val.isLen x y j = false
theorem NoneTo.next {x y : Int} {k : Nat} (h : NoneTo x y k) (hk : Val.isLen x y k = false) : NoneTo x y (k + 1) := fun j hj => by
  by_cases e : j = k
  · rw [e]; exact hk
  · exact h j (by omega)
theorem isLen_at {i b d : Nat} (hb : b < 7) (hd : d < 3) (x y : Int) : Val.isLen x y (21 * i + 3 * b + d) = eqR (Val.lenN b d (Val.kN i) (Val.kE i)) (Val.lenD b d (Val.kN i) (Val.kE i)) x y := by
  obtain ⟨h1, h2, h3⟩ := Val.c_at (i := i) hb hd
  unfold Val.isLen eqR
  rw [h1, h2, h3]
/-- What Find answers, the k-th being the first one. -/
def fv (k : Nat) : Value := if k < 84 then .tuple #[vl (Val.cB k) (Val.cT k) (Val.kN (k / 21)) (Val.kE (k / 21)), .bool true] else .tuple #[vl 0 0 0 0, .bool false]
theorem fv_at {i b d : Nat} (hi : i < 4) (hb : b < 7) (hd : d < 3) : fv (21 * i + 3 * b + d) = .tuple #[vl b d (Val.kN i) (Val.kE i), .bool true] := by
  obtain ⟨h1, h2, h3⟩ := Val.c_at (i := i) hb hd
  unfold fv
  rw [if_pos (by omega), h1, h2, h3]
structure FMem (x y : Int) (w wr : World) : Prop where
  l0 : wr.cell? ⟨w.heap.size, 0, none⟩ = some (.int .i64 x)
  l1 : wr.cell? ⟨w.heap.size, 1, none⟩ = some (.int .i64 y)
  c0 : wr.cell? ⟨w.heap.size + 1, 0, none⟩ = some (.int .i64 0)
  c1 : wr.cell? ⟨w.heap.size + 1, 1, none⟩ = some (.int .i64 0)
  c2 : wr.cell? ⟨w.heap.size + 1, 2, none⟩ = some (.int .i64 0)
  c3 : wr.cell? ⟨w.heap.size + 1, 3, none⟩ = some (.int .i64 0)
  g0 : wr.frozen? ⟨w.heap.size + 1, 0, none⟩ = false
  g1 : wr.frozen? ⟨w.heap.size + 1, 1, none⟩ = false
  g2 : wr.frozen? ⟨w.heap.size + 1, 2, none⟩ = false
  g3 : wr.frozen? ⟨w.heap.size + 1, 3, none⟩ = false
  below : Below w.heap.size w wr
theorem FMem.later {x y : Int} {w wr wx : World} (h : FMem x y w wr) (hb : Below wr.heap.size wr wx) : FMem x y w wx :=
  ⟨cell_later hb h.l0, cell_later hb h.l1, cell_later hb h.c0, cell_later hb h.c1, cell_later hb h.c2, cell_later hb h.c3, frozen_later hb h.c0 h.g0, frozen_later hb h.c1 h.g1, frozen_later hb h.c2 h.g2, frozen_later hb h.c3 h.g3, below_two h.below hb⟩
/-- A value's four cells. -/
structure V4 (b d n e : Int) (K : Nat) (wr : World) : Prop where
  k0 : wr.cell? ⟨K, 0, none⟩ = some (.int .i64 b)
  k1 : wr.cell? ⟨K, 1, none⟩ = some (.int .i64 d)
  k2 : wr.cell? ⟨K, 2, none⟩ = some (.int .i64 n)
  k3 : wr.cell? ⟨K, 3, none⟩ = some (.int .i64 e)
theorem V4.later {b d n e : Int} {K : Nat} {wr wx : World} (h : V4 b d n e K wr) (hb : Below wr.heap.size wr wx) : V4 b d n e K wx := ⟨cell_later hb h.k0, cell_later hb h.k1, cell_later hb h.k2, cell_later hb h.k3⟩
theorem V4.new (w : World) (b d n e : Int) (t : TypeId) : V4 b d n e w.heap.size (w.alloc (.cells #[.int .i64 b, .int .i64 d, .int .i64 n, .int .i64 e] t)) := ⟨by go_simp, by go_simp, by go_simp, by go_simp⟩
def FOut (x y : Int) (w : World) (a : Value) (wr : World) : Prop := ∃ i : Nat, a = .int .i64 (i : Int) ∧ i ≤ 4 ∧ Hid (NoneTo x y (21 * i)) ∧ FMem x y w wr
def FMid (x y : Int) (w : World) (i K : Nat) (n e : Int) (a : Value) (wr : World) : Prop := ∃ b : Nat, a = .int .i64 (b : Int) ∧ b ≤ 7 ∧ Hid (NoneTo x y (21 * i + 3 * b)) ∧ FMem x y w wr ∧ V4 0 0 n e K wr
def FIn (x y : Int) (w : World) (i b K : Nat) (n e : Int) (a : Value) (wr : World) : Prop := ∃ d : Nat, a = .int .i64 (d : Int) ∧ d ≤ 3 ∧ Hid (NoneTo x y (21 * i + 3 * b + d)) ∧ FMem x y w wr ∧ V4 0 0 n e K wr

set_option maxRecDepth 100000 in
set_option maxHeartbeats 4000000 in
theorem find_any (x y : Int) (w : World) (hR : Vars w) :
    Calls Tryz.prog 27 #[rt x y] w fun ed w' => ed = .returned (fv (Val.fnd x y)) ∧ Below w.heap.size w w' := by
  have k0 := hR.kind 0 (by decide)
  have k1 := hR.kind 1 (by decide)
  have k2 := hR.kind 2 (by decide)
  have k3 := hR.kind 3 (by decide)
  have k4 := hR.kind 4 (by decide)
  have k5 := hR.kind 5 (by decide)
  have k6 := hR.kind 6 (by decide)
  have k7 := hR.kind 7 (by decide)
  have k8 := hR.kind 8 (by decide)
  have k9 := hR.kind 9 (by decide)
  have k10 := hR.kind 10 (by decide)
  have k11 := hR.kind 11 (by decide)
  have k12 := hR.kind 12 (by decide)
  have k13 := hR.kind 13 (by decide)
  have k14 := hR.kind 14 (by decide)
  have k15 := hR.kind 15 (by decide)
  simp only [List.getD_cons_zero, List.getD_cons_succ] at k0 k1 k2 k3 k4 k5 k6 k7 k8 k9 k10 k11 k12 k13 k14 k15
  have zg := World.block_lt_of_cell? _ _ k0
  simp only at zg
  have hgR := guardR
  have heq := eql_rt
  have hB0 : Below w.heap.size w w := Below.refl _ _
  go_enter Tryz.func27, Tryz.ntmps27
  go_wp2_with fail
  have hs1 : Below w.heap.size w ((w.alloc (.cells #[.int .i64 x, .int .i64 y] 25)).alloc (.cells #[.int .i64 0, .int .i64 0, .int .i64 0, .int .i64 0] 23)) := by repeat (first | exact Below.refl _ _ | refine Below.alloc ?_ (by simp <;> omega) _)
  have c_l_0 : ((w.alloc (.cells #[.int .i64 x, .int .i64 y] 25)).alloc (.cells #[.int .i64 0, .int .i64 0, .int .i64 0, .int .i64 0] 23)).cell? ⟨w.heap.size, 0, none⟩ = some (.int .i64 x) := by go_simp
  have c_l_1 : ((w.alloc (.cells #[.int .i64 x, .int .i64 y] 25)).alloc (.cells #[.int .i64 0, .int .i64 0, .int .i64 0, .int .i64 0] 23)).cell? ⟨w.heap.size, 1, none⟩ = some (.int .i64 y) := by go_simp
  have c_r_0 : ((w.alloc (.cells #[.int .i64 x, .int .i64 y] 25)).alloc (.cells #[.int .i64 0, .int .i64 0, .int .i64 0, .int .i64 0] 23)).cell? ⟨w.heap.size + 1, 0, none⟩ = some (.int .i64 0) := by go_simp
  have f_r_0 : ((w.alloc (.cells #[.int .i64 x, .int .i64 y] 25)).alloc (.cells #[.int .i64 0, .int .i64 0, .int .i64 0, .int .i64 0] 23)).frozen? ⟨w.heap.size + 1, 0, none⟩ = false := by go_simp
  have c_r_1 : ((w.alloc (.cells #[.int .i64 x, .int .i64 y] 25)).alloc (.cells #[.int .i64 0, .int .i64 0, .int .i64 0, .int .i64 0] 23)).cell? ⟨w.heap.size + 1, 1, none⟩ = some (.int .i64 0) := by go_simp
  have f_r_1 : ((w.alloc (.cells #[.int .i64 x, .int .i64 y] 25)).alloc (.cells #[.int .i64 0, .int .i64 0, .int .i64 0, .int .i64 0] 23)).frozen? ⟨w.heap.size + 1, 1, none⟩ = false := by go_simp
  have c_r_2 : ((w.alloc (.cells #[.int .i64 x, .int .i64 y] 25)).alloc (.cells #[.int .i64 0, .int .i64 0, .int .i64 0, .int .i64 0] 23)).cell? ⟨w.heap.size + 1, 2, none⟩ = some (.int .i64 0) := by go_simp
  have f_r_2 : ((w.alloc (.cells #[.int .i64 x, .int .i64 y] 25)).alloc (.cells #[.int .i64 0, .int .i64 0, .int .i64 0, .int .i64 0] 23)).frozen? ⟨w.heap.size + 1, 2, none⟩ = false := by go_simp
  have c_r_3 : ((w.alloc (.cells #[.int .i64 x, .int .i64 y] 25)).alloc (.cells #[.int .i64 0, .int .i64 0, .int .i64 0, .int .i64 0] 23)).cell? ⟨w.heap.size + 1, 3, none⟩ = some (.int .i64 0) := by go_simp
  have f_r_3 : ((w.alloc (.cells #[.int .i64 x, .int .i64 y] 25)).alloc (.cells #[.int .i64 0, .int .i64 0, .int .i64 0, .int .i64 0] 23)).frozen? ⟨w.heap.size + 1, 3, none⟩ = false := by go_simp
  have hB1 := below_two hB0 hs1
  clear hB0 hs1
  generalize ((w.alloc (.cells #[.int .i64 x, .int .i64 y] 25)).alloc (.cells #[.int .i64 0, .int .i64 0, .int .i64 0, .int .i64 0] 23)) = w1 at *
  have z_l := World.block_lt_of_cell? _ _ c_l_0
  have z_r := World.block_lt_of_cell? _ _ c_r_0
  have hM : FMem x y w w1 := ⟨c_l_0, c_l_1, c_r_0, c_r_1, c_r_2, c_r_3, f_r_0, f_r_1, f_r_2, f_r_3, hB1⟩
  clear c_l_0 c_l_1 c_r_0 c_r_1 c_r_2 c_r_3 f_r_0 f_r_1 f_r_2 f_r_3 hB1 z_l z_r k0 k1 k2 k3 k4 k5 k6 k7 k8 k9 k10 k11 k12 k13 k14 k15
  go_loopw [12] (fun a wr => FOut x y w a wr) (fun a _ => (4 - intOf a).toNat)
  case atStart => exact ⟨0, rfl, by omega, Lib.hid (fun j hj => by omega), hM⟩
  case round =>
    clear hM
    obtain ⟨i, rfl, hi, HN, hM⟩ := hrel
    by_cases hp : i < 4
    · have hx := index_kinds hp
      obtain ⟨n, HKN⟩ : ∃ n, Hid (Val.kN i = n) := ⟨_, Lib.hid rfl⟩
      obtain ⟨e, HKE⟩ : ∃ e, Hid (Val.kE i = e) := ⟨_, Lib.hid rfl⟩
      rw [HKN.out, HKE.out] at hx
      go_wp2_with fail
      have hK := V4.new wr 0 0 n e 23
      have hM2 := hM.later ((Below.refl _ _).alloc (Nat.le_refl _) (.cells #[.int .i64 0, .int .i64 0, .int .i64 n, .int .i64 e] 23))
      clear hM
      generalize wr.alloc (.cells #[.int .i64 0, .int .i64 0, .int .i64 n, .int .i64 e] 23) = wq at *
      generalize wr.heap.size = K at *
      go_loopw [15] (fun a wr => FMid x y w i K n e a wr) (fun a _ => (7 - intOf a).toNat)
      case atStart => exact ⟨0, rfl, by omega, Lib.hid HN.out, hM2, hK⟩
      case round =>
        clear hM2 hK
        obtain ⟨b, rfl, hb, HN2, hM, hK⟩ := hrel
        by_cases hb7 : b < 7
        · go_wp2_with fail
          go_loopw [18] (fun a wr => FIn x y w i b K n e a wr) (fun a _ => (3 - intOf a).toNat)
          case atStart => exact ⟨0, rfl, by omega, Lib.hid HN2.out, hM, hK⟩
          case round =>
            clear hM hK
            obtain ⟨d, rfl, hd, HN3, hM, hK⟩ := hrel
            by_cases hd3 : d < 3
            · obtain ⟨k0, k1, k2, k3⟩ := hK
              go_wp2_with fail
              refine (as_any 0 0 n e b d _).mono ?_
              rintro ed w2 ⟨rfl, hb2⟩
              replace hM := hM.later hb2
              have hK : V4 0 0 n e K w2 := V4.later ⟨k0, k1, k2, k3⟩ hb2
              clear hb2 k0 k1 k2 k3
              go_wp2_with fail
              have hV := V4.new w2 b d n e 23
              replace hM := hM.later ((Below.refl _ _).alloc (Nat.le_refl _) (.cells #[.int .i64 b, .int .i64 d, .int .i64 n, .int .i64 e] 23))
              replace hK := hK.later ((Below.refl _ _).alloc (Nat.le_refl _) (.cells #[.int .i64 b, .int .i64 d, .int .i64 n, .int .i64 e] 23))
              obtain ⟨X, HX⟩ : ∃ X, Hid (Val.lenN b d n e = X) := ⟨_, Lib.hid rfl⟩
              obtain ⟨Y, HY⟩ : ∃ Y, Hid (Val.lenD b d n e = Y) := ⟨_, Lib.hid rfl⟩
              have HL : Hid (Val.isLen x y (21 * i + 3 * b + d) = eqR X Y x y) := Lib.hid (by rw [isLen_at hb7 hd3, HKN.out, HKE.out, HX.out, HY.out])
              refine (length_right (by rw [← HKN.out, ← HKE.out]; exact Val.k_ok hp (by omega) (by omega) (by omega) (by omega)) HX.out HY.out _ (hR.below hM.below)).mono ?_
              rintro ed w3 ⟨rfl, hb3⟩
              replace hV := hV.later hb3
              replace hM := hM.later hb3
              replace hK := hK.later hb3
              clear hb3
              have HK := Lib.hid (hK.later ((Below.refl _ _).alloc (Nat.le_refl _) (.cells #[.int .i64 X, .int .i64 Y] 25)))
              have HM := Lib.hid (hM.later ((Below.refl _ _).alloc (Nat.le_refl _) (.cells #[.int .i64 X, .int .i64 Y] 25)))
              obtain ⟨v0, v1, v2, v3⟩ := hV
              have l0 := hM.l0
              have l1 := hM.l1
              have z0 := World.block_lt_of_cell? _ _ v0
              have z1 := World.block_lt_of_cell? _ _ l0
              cases hE : eqR X Y x y with
              | true =>
                have HB := Lib.hid hM.below
                have f0 := hM.g0
                have f1 := hM.g1
                have f2 := hM.g2
                have f3 := hM.g3
                have z2 := World.block_lt_of_cell? _ _ hM.c0
                have r0 := hM.c0
                have r1 := hM.c1
                have r2 := hM.c2
                have r3 := hM.c3
                have HF : Hid (fv (Val.fnd x y) = .tuple #[vl b d n e, .bool true]) := Lib.hid (by
                  have : Val.fnd x y = 21 * i + 3 * b + d := Val.fst_found (by omega) HN3.out (by rw [HL.out, hE])
                  rw [this, fv_at hp hb7 hd3, HKN.out, HKE.out])
                obtain ⟨m0, m1, m2, m3⟩ := put4_of (x := .int .i64 b) (y := .int .i64 d) (z := .int .i64 n) (u := .int .i64 e) r0 r1 r2 r3
                replace m0 := alloc_cell (o := .cells #[.int .i64 X, .int .i64 Y] 25) m0
                replace m1 := alloc_cell (o := .cells #[.int .i64 X, .int .i64 Y] 25) m1
                replace m2 := alloc_cell (o := .cells #[.int .i64 X, .int .i64 Y] 25) m2
                replace m3 := alloc_cell (o := .cells #[.int .i64 X, .int .i64 Y] 25) m3
                clear hM hK HK HM hx
                go_wp2
                rw [HF.out]
                exact bodyPost_ret (v := .tuple #[vl b d n e, .bool true]) (by simp [results, Tryz.results27, go_sem, m0, m1, m2, m3]) rfl ⟨rfl, alloc_below (put4_below HB.out (by omega))⟩
              | false =>
                clear hM hK
                go_wp2
                go_roundw
                case rel => rw [show decide ((i : Int) < 4) = true from decide_eq_true (by omega), show decide ((b : Int) < 7) = true from decide_eq_true (by omega)]; refine ⟨_, _, _, _, _, _, _, _, _, _, _, _, _, _, _, _, _, _, _, _, _, _, ?_, rfl⟩; exact ⟨d + 1, by go_num, by omega, Lib.hid (HN3.out.next (HL.out.trans hE)), HM.out, HK.out⟩
                case measure => simp [intOf]; omega
            · obtain rfl : d = 3 := by omega
              go_wp2
              go_roundw
              case rel => exact ⟨b + 1, by go_num, by omega, Lib.hid (by have := HN3.out; rw [show 21 * i + 3 * (b + 1) = 21 * i + 3 * b + 3 by omega]; exact this), hM, hK⟩
              case measure => simp [intOf]; omega
        · obtain rfl : b = 7 := by omega
          go_wp2
          go_roundw
          case rel => exact ⟨i + 1, by go_num, by omega, Lib.hid (by have := HN2.out; rw [show 21 * (i + 1) = 21 * i + 3 * 7 by omega]; exact this), hM⟩
          case measure => simp [intOf]; omega
    · obtain rfl : i = 4 := by omega
      obtain ⟨l0, l1, c0, c1, c2, c3, g0, g1, g2, g3, hB⟩ := hM
      obtain ⟨m0, m1, m2, m3⟩ := put4_of (x := .int .i64 0) (y := .int .i64 0) (z := .int .i64 0) (u := .int .i64 0) c0 c1 c2 c3
      go_wp2
      have hv : Val.fnd x y = 84 := Val.fst_none HN.out
      rw [hv]
      exact bodyPost_ret (v := .tuple #[vl 0 0 0 0, .bool false]) (by simp [results, Tryz.results27, go_sem, m0, m1, m2, m3]) rfl ⟨rfl, put4_below hB (by omega)⟩
end Go.Proofs.YtejiifkenanodaaGreatDoor
