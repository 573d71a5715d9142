/-
  KeyScaleSpells holds: the law's walk.
-/
import Derived.Test.YtahcbgngdpjhkaaDoorKeyL
import Derived.LoopN
import Derived.Test.YtahcbgngdpjhkaaDoorKeyRow
namespace Go.Proofs.YtahcbgngdpjhkaaDoor
open Go.RowKit

set_option maxRecDepth 100000 in
set_option maxHeartbeats 4000000 in
theorem sspells_no (f : Int) (m : Bool) (w : World) (hR : Ready w) (ho : Key.okF f = false) :
    Calls Tryd.prog 12 #[ky f m] w fun e w' => e = .returned (.bool true) ∧ Below w.heap.size w w' := by
  have hgP := guardP
  have hgK := guardK
  have heP := eql_pt
  have heK := eql_ky
  have hnP := neq_pt
  have hnK := neq_ky
  have hsP := eqP_self
  have hsK := eqK_self
  have hB0 : Below w.heap.size w w := Below.refl _ _
  go_enter Tryd.func12, Tryd.ntmps12
  go_wp2_with fail
  have hR' := hR.below (hB0.alloc hB0.size (.cells #[.int .i64 f, .bool m] 23))
  refine (awake_any _ hR'.lett).mono ?_
  rintro e w1 ⟨rfl, hb1⟩
  clear hR'
  have hs1 : Below w.heap.size w w1 := Below.trans (by repeat (first | exact Below.refl _ _ | refine Below.alloc ?_ (by simp <;> omega) _)) (hb1.mono (by simp <;> omega))
  have c_k_0 : w1.cell? ⟨w.heap.size, 0, none⟩ = some (.int .i64 f) := (hb1.cell (by simp <;> omega)).trans (by go_simp)
  have c_k_1 : w1.cell? ⟨w.heap.size, 1, none⟩ = some (.bool m) := (hb1.cell (by simp <;> omega)).trans (by go_simp)
  have z_k := World.block_lt_of_cell? _ _ c_k_0
  have hB1 := below_two hB0 hs1
  clear hB0 hs1 hb1
  go_wp2_with fail
  have hR' := hR.below hB1
  refine (scale_no f m _ ho).mono ?_
  rintro e w2 ⟨rfl, hb2⟩
  clear hR'
  have hs2 := hb2
  replace c_k_0 := cell_later hs2 c_k_0
  replace c_k_1 := cell_later hs2 c_k_1
  clear z_k
  have z_k := World.block_lt_of_cell? _ _ c_k_0
  have hB2 := below_two hB1 hs2
  clear hB1 hs2
  go_wp2
  refine wp_loop_rounds 1 ?_
  rw [rounds_succ]
  go_wp2
  go_ret
  exact ⟨rfl, hB2⟩

def SsRel (f : Int) (m : Bool) (v : Value) (w : World) (i : Value) (wr : World) : Prop :=
  ∃ j : Nat, j ≤ 7 ∧ i = .int .i64 j ∧ Hid (Row wr v (scP f m) 7) ∧ wr.cell? ⟨w.heap.size, 0, none⟩ = some (.int .i64 f) ∧ wr.cell? ⟨w.heap.size, 1, none⟩ = some (.bool m) ∧ Below w.heap.size w wr

set_option maxRecDepth 100000 in
set_option maxHeartbeats 4000000 in
theorem sspells_yes (f : Int) (m : Bool) (w : World) (hR : Ready w) (h0 : -7 ≤ f) (h7 : f ≤ 7) :
    Calls Tryd.prog 12 #[ky f m] w fun e w' => e = .returned (.bool true) ∧ Below w.heap.size w w' := by
  have hgP := guardP
  have hgK := guardK
  have heP := eql_pt
  have heK := eql_ky
  have hnP := neq_pt
  have hnK := neq_ky
  have hsP := eqP_self
  have hsK := eqK_self
  have hB0 : Below w.heap.size w w := Below.refl _ _
  go_enter Tryd.func12, Tryd.ntmps12
  go_wp2_with fail
  have hR' := hR.below (hB0.alloc hB0.size (.cells #[.int .i64 f, .bool m] 23))
  refine (awake_any _ hR'.lett).mono ?_
  rintro e w1 ⟨rfl, hb1⟩
  clear hR'
  have hs1 : Below w.heap.size w w1 := Below.trans (by repeat (first | exact Below.refl _ _ | refine Below.alloc ?_ (by simp <;> omega) _)) (hb1.mono (by simp <;> omega))
  have c_k_0 : w1.cell? ⟨w.heap.size, 0, none⟩ = some (.int .i64 f) := (hb1.cell (by simp <;> omega)).trans (by go_simp)
  have c_k_1 : w1.cell? ⟨w.heap.size, 1, none⟩ = some (.bool m) := (hb1.cell (by simp <;> omega)).trans (by go_simp)
  have z_k := World.block_lt_of_cell? _ _ c_k_0
  have hB1 := below_two hB0 hs1
  clear hB0 hs1 hb1
  go_wp2_with fail
  have hR' := hR.below hB1
  refine (scale_yes f m _ h0 h7).mono ?_
  rintro e w2 ⟨⟨v1, rfl, hv⟩, hb2⟩
  clear hR'
  have hs2 := hb2
  replace c_k_0 := cell_later hs2 c_k_0
  replace c_k_1 := cell_later hs2 c_k_1
  clear z_k
  have z_k := World.block_lt_of_cell? _ _ c_k_0
  have hB2 := below_two hB1 hs2
  clear hB1 hs2
  have hv' := hv
  obtain ⟨g, cap, rfl, -⟩ := hv'
  have HV := Lib.hid hv
  clear hv
  go_wp2
  go_loopw [6] (fun i wr => SsRel f m (.slice (some ⟨g, 0, none⟩) 7 cap) w i wr) (fun i _ => (7 - intOf i).toNat)
  case atStart => exact ⟨0, by omega, rfl, HV, c_k_0, c_k_1, hB2⟩
  case round =>
    clear c_k_0 c_k_1 z_k hB2 HV
    obtain ⟨j, hj, rfl, HV, c0, c1, hB⟩ := hrel
    by_cases hj7 : j < 7
    · obtain ⟨hr, hs⟩ := Key.scale_sp (f := f) (i := j) m h0 h7 (by omega) (by omega)
      have HX : Hid (scP f m j = (Key.scS f m j, Key.scA f m j, Key.scO f m j)) := Lib.hid rfl
      generalize Key.scS f m j = x at *
      generalize Key.scA f m j = y at *
      generalize Key.scO f m j = z at *
      have hR0 := (Pit.right_iff _ _ _).1 hr
      have HN : Hid (∀ w, Ready w → Calls Tryd.prog 33 #[pt x y z] w fun e w' => e = .returned (.tuple #[.int .i64 (Pit.num x y z), .int .i64 0]) ∧ Below w.heap.size w w') := Lib.hid (fun w hR => numberE_yes x y z w hR hR0)
      have HSp : Hid (∀ w, Ready w → Calls Tryd.prog 29 #[ky f m, .int .i64 (Pit.num x y z)] w fun e w' => e = .returned (pv x y z 0) ∧ Below w.heap.size w w') := Lib.hid (fun w hR => by
        have h := spell_any f m (Pit.num x y z) w hR
        have n0 := hR0.n0
        have nM := hR0.nM
        have e1 : Key.eSp f (Pit.num x y z) = 0 := by unfold Key.eSp; rw [Key.okF_true h0 h7, decide_eq_true ⟨n0, nM⟩, hs]; rfl
        have e2 : Key.spE f (Pit.num x y z) = (x, y, z) := by unfold Key.spE; rw [if_pos e1, hs]; rfl
        rw [e1, e2] at h
        exact h)
      clear hr hs hR0
      generalize Pit.num x y z = N at *
      obtain ⟨a0, a1, a2⟩ : wr.cell? ⟨g, j * 3, none⟩ = some (.int .i64 x) ∧ wr.cell? ⟨g, j * 3 + 1, none⟩ = some (.int .i64 y) ∧ wr.cell? ⟨g, j * 3 + 2, none⟩ = some (.int .i64 z) := by
        obtain ⟨g', cap', e, hc⟩ := HV.out
        obtain ⟨rfl, rfl⟩ : g = g' ∧ cap = cap' := by simpa using e
        have := hc j hj7
        rw [HX.out] at this
        exact this
      go_wp2_with fail
      refine (HN.out _ (hR.below hB)).mono ?_
      rintro e u2 ⟨rfl, hb⟩
      replace c0 := cell_later hb c0
      replace c1 := cell_later hb c1
      replace HV := Lib.hid (HV.out.later hb)
      replace hB := below_two hB hb
      replace a0 := cell_later hb a0
      replace a1 := cell_later hb a1
      replace a2 := cell_later hb a2
      clear hb
      go_wp2_with fail
      refine (HSp.out _ (hR.below hB)).mono ?_
      rintro e u3 ⟨rfl, hb⟩
      replace c0 := cell_later hb c0
      replace c1 := cell_later hb c1
      replace HV := Lib.hid (HV.out.later hb)
      replace hB := below_two hB hb
      replace a0 := cell_later hb a0
      replace a1 := cell_later hb a1
      replace a2 := cell_later hb a2
      clear hb
      have q0 : (u3.alloc (.cells #[.int .i64 x, .int .i64 y, .int .i64 z] 42)).cell? ⟨u3.heap.size, 0, none⟩ = some (.int .i64 x) := by go_simp
      have q1 : (u3.alloc (.cells #[.int .i64 x, .int .i64 y, .int .i64 z] 42)).cell? ⟨u3.heap.size, 1, none⟩ = some (.int .i64 y) := by go_simp
      have q2 : (u3.alloc (.cells #[.int .i64 x, .int .i64 y, .int .i64 z] 42)).cell? ⟨u3.heap.size, 2, none⟩ = some (.int .i64 z) := by go_simp
      have hb : Below u3.heap.size u3 (u3.alloc (.cells #[.int .i64 x, .int .i64 y, .int .i64 z] 42)) := (Below.refl _ _).alloc (Nat.le_refl _) _
      replace c0 := cell_later hb c0
      replace c1 := cell_later hb c1
      replace HV := Lib.hid (HV.out.later hb)
      replace hB := below_two hB hb
      replace a0 := cell_later hb a0
      replace a1 := cell_later hb a1
      replace a2 := cell_later hb a2
      clear hb
      go_wp2_with fail
      generalize u3.alloc (.cells #[.int .i64 x, .int .i64 y, .int .i64 z] 42) = u4 at *
      go_quiet (fail)
      go_wp2
      go_roundw
      case rel => exact ⟨j + 1, by omega, by go_num, Lib.hid (HV.out.later (below_drewN (Below.refl _ _) _)), cell_later (below_drewN (Below.refl _ _) _) c0, cell_later (below_drewN (Below.refl _ _) _) c1, below_drewN hB _⟩
      case measure => simp [intOf]; omega
    · obtain rfl : j = 7 := by omega
      go_wp2
      go_ret
      exact ⟨rfl, hB⟩

theorem keyScaleSpells_calls (f : Int) (m : Bool) (_ : Pit.I64 f) (w : World) (hR : Ready w) : LawHolds 12 #[ky f m] w := by
  cases ho : Key.okF f with
  | true => exact sspells_yes f m w hR ((Key.okF_iff f).1 ho).1 ((Key.okF_iff f).1 ho).2
  | false => exact sspells_no f m w hR ho
end Go.Proofs.YtahcbgngdpjhkaaDoor
