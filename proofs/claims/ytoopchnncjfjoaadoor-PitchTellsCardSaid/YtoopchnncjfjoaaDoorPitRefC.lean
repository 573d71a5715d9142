/-
  The contract of the reference's Text.
-/
import Derived.Test.YtoopchnncjfjoaaDoorPitE
import Derived.Test.YtoopchnncjfjoaaDoorPitH
namespace Go.Proofs.YtoopchnncjfjoaaDoor
open Go.RowKit

set_option maxRecDepth 100000 in
set_option maxHeartbeats 4000000 in
theorem refText_no (s a o : Int) (w : World) (h : Pit.right s a o = false) :
    Calls Tryd.prog 19 #[pt s a o] w fun e w' => e = .returned (.tuple #[.string ⟨#[]⟩, .int .i64 20]) ∧ Below w.heap.size w w' := by
  have hB0 : Below w.heap.size w w := Below.refl _ _
  go_enter Tryd.func19, Tryd.ntmps19
  go_wp2_with fail
  refine (refRight_any _ _ _ _).mono ?_
  rintro e w1 ⟨rfl, hb1⟩
  have hs1 : Below w.heap.size w w1 := Below.trans (by repeat (first | exact Below.refl _ _ | refine Below.alloc ?_ (by simp <;> omega) _)) (hb1.mono (by simp <;> omega))
  have hB1 := below_two hB0 hs1
  clear hB0 hs1 hb1
  rw [h]
  go_wp2
  go_ret2
  exact ⟨rfl, hB1⟩

set_option maxRecDepth 100000 in
set_option maxHeartbeats 4000000 in
theorem refText_m2n (s : Int) (w : World) (h : Pit.right s (-2) (-1) = true) (l : UInt8) (s1 : Int) (hs1 : s + 1 = s1) (b0 : 0 ≤ s) (b1 : s ≤ s1) (b2 : s1 ≤ 7) (hex : (ByteArray.mk #[67, 68, 69, 70, 71, 65, 66]).extract s.toNat s1.toNat = ⟨[l].toArray⟩) :
    Calls Tryd.prog 19 #[pt s (-2) (-1)] w fun e w' => e = .returned (.tuple #[.string ⟨#[l, 98, 98, 45, 49]⟩, .int .i64 0]) ∧ Below w.heap.size w w' := by
  have a0 : ∀ w : World, (Op.stringOp .add ⟨#[l]⟩ ⟨#[98]⟩).run Tryd.prog w = .ok (.string ⟨#[l, 98]⟩) w := fun w => run_string_add_lists w [l] [98] (by simp) (by simp)
  have a1 : ∀ w : World, (Op.stringOp .add ⟨#[l, 98]⟩ ⟨#[98]⟩).run Tryd.prog w = .ok (.string ⟨#[l, 98, 98]⟩) w := fun w => run_string_add_lists w [l, 98] [98] (by simp) (by simp)
  have at0 : ∀ w : World, (Op.stringOp .add ⟨#[l, 98, 98]⟩ ⟨#[45, 49]⟩).run Tryd.prog w = .ok (.string ⟨#[l, 98, 98, 45, 49]⟩) w := fun w => run_string_add_lists w [l, 98, 98] [45, 49] (by simp) (by simp)
  have hB0 : Below w.heap.size w w := Below.refl _ _
  go_enter Tryd.func19, Tryd.ntmps19
  go_wp2_with fail
  refine (refRight_any _ _ _ _).mono ?_
  rintro e w1 ⟨rfl, hb1⟩
  have hs1 : Below w.heap.size w w1 := Below.trans (by repeat (first | exact Below.refl _ _ | refine Below.alloc ?_ (by simp <;> omega) _)) (hb1.mono (by simp <;> omega))
  have c_p_0 : w1.cell? ⟨w.heap.size, 0, none⟩ = some (.int .i64 s) := (hb1.cell (by simp <;> omega)).trans (by go_simp)
  have c_p_1 : w1.cell? ⟨w.heap.size, 1, none⟩ = some (.int .i64 (-2)) := (hb1.cell (by simp <;> omega)).trans (by go_simp)
  have c_p_2 : w1.cell? ⟨w.heap.size, 2, none⟩ = some (.int .i64 (-1)) := (hb1.cell (by simp <;> omega)).trans (by go_simp)
  have z_p := World.block_lt_of_cell? _ _ c_p_0
  have hB1 := below_two hB0 hs1
  clear hB0 hs1 hb1
  rw [h]
  go_wp2_with fail
  go_loop [5, 6] (fun x i => (x = .string ⟨#[l]⟩ ∧ i = .int .i64 0)) (fun _ i => 0 - (intOf i).toNat)
  case atStart => exact ⟨rfl, rfl⟩
  case round =>
    obtain ⟨rfl, rfl⟩ := hrel
    go_wp2_with fail
    go_loop [5, 7] (fun x i => (x = .string ⟨#[l]⟩ ∧ i = .int .i64 0) ∨ (x = .string ⟨#[l, 98]⟩ ∧ i = .int .i64 1) ∨ (x = .string ⟨#[l, 98, 98]⟩ ∧ i = .int .i64 2)) (fun _ i => 2 - (intOf i).toNat)
    case atStart => exact Or.inl ⟨rfl, rfl⟩
    case round =>
      rcases hrel with ⟨rfl, rfl⟩ | ⟨rfl, rfl⟩ | ⟨rfl, rfl⟩
      · go_wp2
        exact ⟨Or.inr (Or.inl ⟨rfl, rfl⟩), by simp [intOf]⟩
      · go_wp2
        exact ⟨Or.inr (Or.inr (⟨rfl, rfl⟩)), by simp [intOf]⟩
      · go_wp2
        go_ret2
        exact ⟨rfl, hB1⟩

set_option maxRecDepth 100000 in
set_option maxHeartbeats 4000000 in
theorem refText_m2d (s o : Int) (w : World) (h : Pit.right s (-2) o = true) (l : UInt8) (s1 : Int) (hs1 : s + 1 = s1) (b0 : 0 ≤ s) (b1 : s ≤ s1) (b2 : s1 ≤ 7) (hex : (ByteArray.mk #[67, 68, 69, 70, 71, 65, 66]).extract s.toNat s1.toNat = ⟨[l].toArray⟩) (o1 : Int) (d : UInt8) (ho1 : o + 1 = o1) (o0 : 0 ≤ o) (o2 : o ≤ o1) (o3 : o1 ≤ 10) (hed : (ByteArray.mk #[48, 49, 50, 51, 52, 53, 54, 55, 56, 57]).extract o.toNat o1.toNat = ⟨[d].toArray⟩) :
    Calls Tryd.prog 19 #[pt s (-2) o] w fun e w' => e = .returned (.tuple #[.string ⟨#[l, 98, 98, d]⟩, .int .i64 0]) ∧ Below w.heap.size w w' := by
  have a0 : ∀ w : World, (Op.stringOp .add ⟨#[l]⟩ ⟨#[98]⟩).run Tryd.prog w = .ok (.string ⟨#[l, 98]⟩) w := fun w => run_string_add_lists w [l] [98] (by simp) (by simp)
  have a1 : ∀ w : World, (Op.stringOp .add ⟨#[l, 98]⟩ ⟨#[98]⟩).run Tryd.prog w = .ok (.string ⟨#[l, 98, 98]⟩) w := fun w => run_string_add_lists w [l, 98] [98] (by simp) (by simp)
  have at0 : ∀ w : World, (Op.stringOp .add ⟨#[l, 98, 98]⟩ ⟨#[d]⟩).run Tryd.prog w = .ok (.string ⟨#[l, 98, 98, d]⟩) w := fun w => run_string_add_lists w [l, 98, 98] [d] (by simp) (by simp)
  have hB0 : Below w.heap.size w w := Below.refl _ _
  go_enter Tryd.func19, Tryd.ntmps19
  go_wp2_with fail
  refine (refRight_any _ _ _ _).mono ?_
  rintro e w1 ⟨rfl, hb1⟩
  have hs1 : Below w.heap.size w w1 := Below.trans (by repeat (first | exact Below.refl _ _ | refine Below.alloc ?_ (by simp <;> omega) _)) (hb1.mono (by simp <;> omega))
  have c_p_0 : w1.cell? ⟨w.heap.size, 0, none⟩ = some (.int .i64 s) := (hb1.cell (by simp <;> omega)).trans (by go_simp)
  have c_p_1 : w1.cell? ⟨w.heap.size, 1, none⟩ = some (.int .i64 (-2)) := (hb1.cell (by simp <;> omega)).trans (by go_simp)
  have c_p_2 : w1.cell? ⟨w.heap.size, 2, none⟩ = some (.int .i64 o) := (hb1.cell (by simp <;> omega)).trans (by go_simp)
  have z_p := World.block_lt_of_cell? _ _ c_p_0
  have hB1 := below_two hB0 hs1
  clear hB0 hs1 hb1
  rw [h]
  go_wp2_with fail
  go_loop [5, 6] (fun x i => (x = .string ⟨#[l]⟩ ∧ i = .int .i64 0)) (fun _ i => 0 - (intOf i).toNat)
  case atStart => exact ⟨rfl, rfl⟩
  case round =>
    obtain ⟨rfl, rfl⟩ := hrel
    go_wp2_with fail
    go_loop [5, 7] (fun x i => (x = .string ⟨#[l]⟩ ∧ i = .int .i64 0) ∨ (x = .string ⟨#[l, 98]⟩ ∧ i = .int .i64 1) ∨ (x = .string ⟨#[l, 98, 98]⟩ ∧ i = .int .i64 2)) (fun _ i => 2 - (intOf i).toNat)
    case atStart => exact Or.inl ⟨rfl, rfl⟩
    case round =>
      rcases hrel with ⟨rfl, rfl⟩ | ⟨rfl, rfl⟩ | ⟨rfl, rfl⟩
      · go_wp2
        exact ⟨Or.inr (Or.inl ⟨rfl, rfl⟩), by simp [intOf]⟩
      · go_wp2
        exact ⟨Or.inr (Or.inr (⟨rfl, rfl⟩)), by simp [intOf]⟩
      · go_wp2
        go_ret2
        exact ⟨rfl, hB1⟩

set_option maxRecDepth 100000 in
set_option maxHeartbeats 4000000 in
theorem refText_m1n (s : Int) (w : World) (h : Pit.right s (-1) (-1) = true) (l : UInt8) (s1 : Int) (hs1 : s + 1 = s1) (b0 : 0 ≤ s) (b1 : s ≤ s1) (b2 : s1 ≤ 7) (hex : (ByteArray.mk #[67, 68, 69, 70, 71, 65, 66]).extract s.toNat s1.toNat = ⟨[l].toArray⟩) :
    Calls Tryd.prog 19 #[pt s (-1) (-1)] w fun e w' => e = .returned (.tuple #[.string ⟨#[l, 98, 45, 49]⟩, .int .i64 0]) ∧ Below w.heap.size w w' := by
  have a0 : ∀ w : World, (Op.stringOp .add ⟨#[l]⟩ ⟨#[98]⟩).run Tryd.prog w = .ok (.string ⟨#[l, 98]⟩) w := fun w => run_string_add_lists w [l] [98] (by simp) (by simp)
  have at0 : ∀ w : World, (Op.stringOp .add ⟨#[l, 98]⟩ ⟨#[45, 49]⟩).run Tryd.prog w = .ok (.string ⟨#[l, 98, 45, 49]⟩) w := fun w => run_string_add_lists w [l, 98] [45, 49] (by simp) (by simp)
  have hB0 : Below w.heap.size w w := Below.refl _ _
  go_enter Tryd.func19, Tryd.ntmps19
  go_wp2_with fail
  refine (refRight_any _ _ _ _).mono ?_
  rintro e w1 ⟨rfl, hb1⟩
  have hs1 : Below w.heap.size w w1 := Below.trans (by repeat (first | exact Below.refl _ _ | refine Below.alloc ?_ (by simp <;> omega) _)) (hb1.mono (by simp <;> omega))
  have c_p_0 : w1.cell? ⟨w.heap.size, 0, none⟩ = some (.int .i64 s) := (hb1.cell (by simp <;> omega)).trans (by go_simp)
  have c_p_1 : w1.cell? ⟨w.heap.size, 1, none⟩ = some (.int .i64 (-1)) := (hb1.cell (by simp <;> omega)).trans (by go_simp)
  have c_p_2 : w1.cell? ⟨w.heap.size, 2, none⟩ = some (.int .i64 (-1)) := (hb1.cell (by simp <;> omega)).trans (by go_simp)
  have z_p := World.block_lt_of_cell? _ _ c_p_0
  have hB1 := below_two hB0 hs1
  clear hB0 hs1 hb1
  rw [h]
  go_wp2_with fail
  go_loop [5, 6] (fun x i => (x = .string ⟨#[l]⟩ ∧ i = .int .i64 0)) (fun _ i => 0 - (intOf i).toNat)
  case atStart => exact ⟨rfl, rfl⟩
  case round =>
    obtain ⟨rfl, rfl⟩ := hrel
    go_wp2_with fail
    go_loop [5, 7] (fun x i => (x = .string ⟨#[l]⟩ ∧ i = .int .i64 0) ∨ (x = .string ⟨#[l, 98]⟩ ∧ i = .int .i64 1)) (fun _ i => 1 - (intOf i).toNat)
    case atStart => exact Or.inl ⟨rfl, rfl⟩
    case round =>
      rcases hrel with ⟨rfl, rfl⟩ | ⟨rfl, rfl⟩
      · go_wp2
        exact ⟨Or.inr (⟨rfl, rfl⟩), by simp [intOf]⟩
      · go_wp2
        go_ret2
        exact ⟨rfl, hB1⟩

set_option maxRecDepth 100000 in
set_option maxHeartbeats 4000000 in
theorem refText_m1d (s o : Int) (w : World) (h : Pit.right s (-1) o = true) (l : UInt8) (s1 : Int) (hs1 : s + 1 = s1) (b0 : 0 ≤ s) (b1 : s ≤ s1) (b2 : s1 ≤ 7) (hex : (ByteArray.mk #[67, 68, 69, 70, 71, 65, 66]).extract s.toNat s1.toNat = ⟨[l].toArray⟩) (o1 : Int) (d : UInt8) (ho1 : o + 1 = o1) (o0 : 0 ≤ o) (o2 : o ≤ o1) (o3 : o1 ≤ 10) (hed : (ByteArray.mk #[48, 49, 50, 51, 52, 53, 54, 55, 56, 57]).extract o.toNat o1.toNat = ⟨[d].toArray⟩) :
    Calls Tryd.prog 19 #[pt s (-1) o] w fun e w' => e = .returned (.tuple #[.string ⟨#[l, 98, d]⟩, .int .i64 0]) ∧ Below w.heap.size w w' := by
  have a0 : ∀ w : World, (Op.stringOp .add ⟨#[l]⟩ ⟨#[98]⟩).run Tryd.prog w = .ok (.string ⟨#[l, 98]⟩) w := fun w => run_string_add_lists w [l] [98] (by simp) (by simp)
  have at0 : ∀ w : World, (Op.stringOp .add ⟨#[l, 98]⟩ ⟨#[d]⟩).run Tryd.prog w = .ok (.string ⟨#[l, 98, d]⟩) w := fun w => run_string_add_lists w [l, 98] [d] (by simp) (by simp)
  have hB0 : Below w.heap.size w w := Below.refl _ _
  go_enter Tryd.func19, Tryd.ntmps19
  go_wp2_with fail
  refine (refRight_any _ _ _ _).mono ?_
  rintro e w1 ⟨rfl, hb1⟩
  have hs1 : Below w.heap.size w w1 := Below.trans (by repeat (first | exact Below.refl _ _ | refine Below.alloc ?_ (by simp <;> omega) _)) (hb1.mono (by simp <;> omega))
  have c_p_0 : w1.cell? ⟨w.heap.size, 0, none⟩ = some (.int .i64 s) := (hb1.cell (by simp <;> omega)).trans (by go_simp)
  have c_p_1 : w1.cell? ⟨w.heap.size, 1, none⟩ = some (.int .i64 (-1)) := (hb1.cell (by simp <;> omega)).trans (by go_simp)
  have c_p_2 : w1.cell? ⟨w.heap.size, 2, none⟩ = some (.int .i64 o) := (hb1.cell (by simp <;> omega)).trans (by go_simp)
  have z_p := World.block_lt_of_cell? _ _ c_p_0
  have hB1 := below_two hB0 hs1
  clear hB0 hs1 hb1
  rw [h]
  go_wp2_with fail
  go_loop [5, 6] (fun x i => (x = .string ⟨#[l]⟩ ∧ i = .int .i64 0)) (fun _ i => 0 - (intOf i).toNat)
  case atStart => exact ⟨rfl, rfl⟩
  case round =>
    obtain ⟨rfl, rfl⟩ := hrel
    go_wp2_with fail
    go_loop [5, 7] (fun x i => (x = .string ⟨#[l]⟩ ∧ i = .int .i64 0) ∨ (x = .string ⟨#[l, 98]⟩ ∧ i = .int .i64 1)) (fun _ i => 1 - (intOf i).toNat)
    case atStart => exact Or.inl ⟨rfl, rfl⟩
    case round =>
      rcases hrel with ⟨rfl, rfl⟩ | ⟨rfl, rfl⟩
      · go_wp2
        exact ⟨Or.inr (⟨rfl, rfl⟩), by simp [intOf]⟩
      · go_wp2
        go_ret2
        exact ⟨rfl, hB1⟩

set_option maxRecDepth 100000 in
set_option maxHeartbeats 4000000 in
theorem refText_p0n (s : Int) (w : World) (h : Pit.right s 0 (-1) = true) (l : UInt8) (s1 : Int) (hs1 : s + 1 = s1) (b0 : 0 ≤ s) (b1 : s ≤ s1) (b2 : s1 ≤ 7) (hex : (ByteArray.mk #[67, 68, 69, 70, 71, 65, 66]).extract s.toNat s1.toNat = ⟨[l].toArray⟩) :
    Calls Tryd.prog 19 #[pt s 0 (-1)] w fun e w' => e = .returned (.tuple #[.string ⟨#[l, 45, 49]⟩, .int .i64 0]) ∧ Below w.heap.size w w' := by
  have at0 : ∀ w : World, (Op.stringOp .add ⟨#[l]⟩ ⟨#[45, 49]⟩).run Tryd.prog w = .ok (.string ⟨#[l, 45, 49]⟩) w := fun w => run_string_add_lists w [l] [45, 49] (by simp) (by simp)
  have hB0 : Below w.heap.size w w := Below.refl _ _
  go_enter Tryd.func19, Tryd.ntmps19
  go_wp2_with fail
  refine (refRight_any _ _ _ _).mono ?_
  rintro e w1 ⟨rfl, hb1⟩
  have hs1 : Below w.heap.size w w1 := Below.trans (by repeat (first | exact Below.refl _ _ | refine Below.alloc ?_ (by simp <;> omega) _)) (hb1.mono (by simp <;> omega))
  have c_p_0 : w1.cell? ⟨w.heap.size, 0, none⟩ = some (.int .i64 s) := (hb1.cell (by simp <;> omega)).trans (by go_simp)
  have c_p_1 : w1.cell? ⟨w.heap.size, 1, none⟩ = some (.int .i64 0) := (hb1.cell (by simp <;> omega)).trans (by go_simp)
  have c_p_2 : w1.cell? ⟨w.heap.size, 2, none⟩ = some (.int .i64 (-1)) := (hb1.cell (by simp <;> omega)).trans (by go_simp)
  have z_p := World.block_lt_of_cell? _ _ c_p_0
  have hB1 := below_two hB0 hs1
  clear hB0 hs1 hb1
  rw [h]
  go_wp2_with fail
  go_loop [5, 6] (fun x i => (x = .string ⟨#[l]⟩ ∧ i = .int .i64 0)) (fun _ i => 0 - (intOf i).toNat)
  case atStart => exact ⟨rfl, rfl⟩
  case round =>
    obtain ⟨rfl, rfl⟩ := hrel
    go_wp2_with fail
    go_loop [5, 7] (fun x i => (x = .string ⟨#[l]⟩ ∧ i = .int .i64 0)) (fun _ i => 0 - (intOf i).toNat)
    case atStart => exact ⟨rfl, rfl⟩
    case round =>
      obtain ⟨rfl, rfl⟩ := hrel
      go_wp2
      go_ret2
      exact ⟨rfl, hB1⟩

set_option maxRecDepth 100000 in
set_option maxHeartbeats 4000000 in
theorem refText_p0d (s o : Int) (w : World) (h : Pit.right s 0 o = true) (l : UInt8) (s1 : Int) (hs1 : s + 1 = s1) (b0 : 0 ≤ s) (b1 : s ≤ s1) (b2 : s1 ≤ 7) (hex : (ByteArray.mk #[67, 68, 69, 70, 71, 65, 66]).extract s.toNat s1.toNat = ⟨[l].toArray⟩) (o1 : Int) (d : UInt8) (ho1 : o + 1 = o1) (o0 : 0 ≤ o) (o2 : o ≤ o1) (o3 : o1 ≤ 10) (hed : (ByteArray.mk #[48, 49, 50, 51, 52, 53, 54, 55, 56, 57]).extract o.toNat o1.toNat = ⟨[d].toArray⟩) :
    Calls Tryd.prog 19 #[pt s 0 o] w fun e w' => e = .returned (.tuple #[.string ⟨#[l, d]⟩, .int .i64 0]) ∧ Below w.heap.size w w' := by
  have at0 : ∀ w : World, (Op.stringOp .add ⟨#[l]⟩ ⟨#[d]⟩).run Tryd.prog w = .ok (.string ⟨#[l, d]⟩) w := fun w => run_string_add_lists w [l] [d] (by simp) (by simp)
  have hB0 : Below w.heap.size w w := Below.refl _ _
  go_enter Tryd.func19, Tryd.ntmps19
  go_wp2_with fail
  refine (refRight_any _ _ _ _).mono ?_
  rintro e w1 ⟨rfl, hb1⟩
  have hs1 : Below w.heap.size w w1 := Below.trans (by repeat (first | exact Below.refl _ _ | refine Below.alloc ?_ (by simp <;> omega) _)) (hb1.mono (by simp <;> omega))
  have c_p_0 : w1.cell? ⟨w.heap.size, 0, none⟩ = some (.int .i64 s) := (hb1.cell (by simp <;> omega)).trans (by go_simp)
  have c_p_1 : w1.cell? ⟨w.heap.size, 1, none⟩ = some (.int .i64 0) := (hb1.cell (by simp <;> omega)).trans (by go_simp)
  have c_p_2 : w1.cell? ⟨w.heap.size, 2, none⟩ = some (.int .i64 o) := (hb1.cell (by simp <;> omega)).trans (by go_simp)
  have z_p := World.block_lt_of_cell? _ _ c_p_0
  have hB1 := below_two hB0 hs1
  clear hB0 hs1 hb1
  rw [h]
  go_wp2_with fail
  go_loop [5, 6] (fun x i => (x = .string ⟨#[l]⟩ ∧ i = .int .i64 0)) (fun _ i => 0 - (intOf i).toNat)
  case atStart => exact ⟨rfl, rfl⟩
  case round =>
    obtain ⟨rfl, rfl⟩ := hrel
    go_wp2_with fail
    go_loop [5, 7] (fun x i => (x = .string ⟨#[l]⟩ ∧ i = .int .i64 0)) (fun _ i => 0 - (intOf i).toNat)
    case atStart => exact ⟨rfl, rfl⟩
    case round =>
      obtain ⟨rfl, rfl⟩ := hrel
      go_wp2
      go_ret2
      exact ⟨rfl, hB1⟩

set_option maxRecDepth 100000 in
set_option maxHeartbeats 4000000 in
theorem refText_p1n (s : Int) (w : World) (h : Pit.right s 1 (-1) = true) (l : UInt8) (s1 : Int) (hs1 : s + 1 = s1) (b0 : 0 ≤ s) (b1 : s ≤ s1) (b2 : s1 ≤ 7) (hex : (ByteArray.mk #[67, 68, 69, 70, 71, 65, 66]).extract s.toNat s1.toNat = ⟨[l].toArray⟩) :
    Calls Tryd.prog 19 #[pt s 1 (-1)] w fun e w' => e = .returned (.tuple #[.string ⟨#[l, 35, 45, 49]⟩, .int .i64 0]) ∧ Below w.heap.size w w' := by
  have a0 : ∀ w : World, (Op.stringOp .add ⟨#[l]⟩ ⟨#[35]⟩).run Tryd.prog w = .ok (.string ⟨#[l, 35]⟩) w := fun w => run_string_add_lists w [l] [35] (by simp) (by simp)
  have at0 : ∀ w : World, (Op.stringOp .add ⟨#[l, 35]⟩ ⟨#[45, 49]⟩).run Tryd.prog w = .ok (.string ⟨#[l, 35, 45, 49]⟩) w := fun w => run_string_add_lists w [l, 35] [45, 49] (by simp) (by simp)
  have hB0 : Below w.heap.size w w := Below.refl _ _
  go_enter Tryd.func19, Tryd.ntmps19
  go_wp2_with fail
  refine (refRight_any _ _ _ _).mono ?_
  rintro e w1 ⟨rfl, hb1⟩
  have hs1 : Below w.heap.size w w1 := Below.trans (by repeat (first | exact Below.refl _ _ | refine Below.alloc ?_ (by simp <;> omega) _)) (hb1.mono (by simp <;> omega))
  have c_p_0 : w1.cell? ⟨w.heap.size, 0, none⟩ = some (.int .i64 s) := (hb1.cell (by simp <;> omega)).trans (by go_simp)
  have c_p_1 : w1.cell? ⟨w.heap.size, 1, none⟩ = some (.int .i64 1) := (hb1.cell (by simp <;> omega)).trans (by go_simp)
  have c_p_2 : w1.cell? ⟨w.heap.size, 2, none⟩ = some (.int .i64 (-1)) := (hb1.cell (by simp <;> omega)).trans (by go_simp)
  have z_p := World.block_lt_of_cell? _ _ c_p_0
  have hB1 := below_two hB0 hs1
  clear hB0 hs1 hb1
  rw [h]
  go_wp2_with fail
  go_loop [5, 6] (fun x i => (x = .string ⟨#[l]⟩ ∧ i = .int .i64 0) ∨ (x = .string ⟨#[l, 35]⟩ ∧ i = .int .i64 1)) (fun _ i => 1 - (intOf i).toNat)
  case atStart => exact Or.inl ⟨rfl, rfl⟩
  case round =>
    rcases hrel with ⟨rfl, rfl⟩ | ⟨rfl, rfl⟩
    · go_wp2
      exact ⟨Or.inr (⟨rfl, rfl⟩), by simp [intOf]⟩
    · go_wp2_with fail
      go_loop [5, 7] (fun x i => (x = .string ⟨#[l, 35]⟩ ∧ i = .int .i64 0)) (fun _ i => 0 - (intOf i).toNat)
      case atStart => exact ⟨rfl, rfl⟩
      case round =>
        obtain ⟨rfl, rfl⟩ := hrel
        go_wp2
        go_ret2
        exact ⟨rfl, hB1⟩

set_option maxRecDepth 100000 in
set_option maxHeartbeats 4000000 in
theorem refText_p1d (s o : Int) (w : World) (h : Pit.right s 1 o = true) (l : UInt8) (s1 : Int) (hs1 : s + 1 = s1) (b0 : 0 ≤ s) (b1 : s ≤ s1) (b2 : s1 ≤ 7) (hex : (ByteArray.mk #[67, 68, 69, 70, 71, 65, 66]).extract s.toNat s1.toNat = ⟨[l].toArray⟩) (o1 : Int) (d : UInt8) (ho1 : o + 1 = o1) (o0 : 0 ≤ o) (o2 : o ≤ o1) (o3 : o1 ≤ 10) (hed : (ByteArray.mk #[48, 49, 50, 51, 52, 53, 54, 55, 56, 57]).extract o.toNat o1.toNat = ⟨[d].toArray⟩) :
    Calls Tryd.prog 19 #[pt s 1 o] w fun e w' => e = .returned (.tuple #[.string ⟨#[l, 35, d]⟩, .int .i64 0]) ∧ Below w.heap.size w w' := by
  have a0 : ∀ w : World, (Op.stringOp .add ⟨#[l]⟩ ⟨#[35]⟩).run Tryd.prog w = .ok (.string ⟨#[l, 35]⟩) w := fun w => run_string_add_lists w [l] [35] (by simp) (by simp)
  have at0 : ∀ w : World, (Op.stringOp .add ⟨#[l, 35]⟩ ⟨#[d]⟩).run Tryd.prog w = .ok (.string ⟨#[l, 35, d]⟩) w := fun w => run_string_add_lists w [l, 35] [d] (by simp) (by simp)
  have hB0 : Below w.heap.size w w := Below.refl _ _
  go_enter Tryd.func19, Tryd.ntmps19
  go_wp2_with fail
  refine (refRight_any _ _ _ _).mono ?_
  rintro e w1 ⟨rfl, hb1⟩
  have hs1 : Below w.heap.size w w1 := Below.trans (by repeat (first | exact Below.refl _ _ | refine Below.alloc ?_ (by simp <;> omega) _)) (hb1.mono (by simp <;> omega))
  have c_p_0 : w1.cell? ⟨w.heap.size, 0, none⟩ = some (.int .i64 s) := (hb1.cell (by simp <;> omega)).trans (by go_simp)
  have c_p_1 : w1.cell? ⟨w.heap.size, 1, none⟩ = some (.int .i64 1) := (hb1.cell (by simp <;> omega)).trans (by go_simp)
  have c_p_2 : w1.cell? ⟨w.heap.size, 2, none⟩ = some (.int .i64 o) := (hb1.cell (by simp <;> omega)).trans (by go_simp)
  have z_p := World.block_lt_of_cell? _ _ c_p_0
  have hB1 := below_two hB0 hs1
  clear hB0 hs1 hb1
  rw [h]
  go_wp2_with fail
  go_loop [5, 6] (fun x i => (x = .string ⟨#[l]⟩ ∧ i = .int .i64 0) ∨ (x = .string ⟨#[l, 35]⟩ ∧ i = .int .i64 1)) (fun _ i => 1 - (intOf i).toNat)
  case atStart => exact Or.inl ⟨rfl, rfl⟩
  case round =>
    rcases hrel with ⟨rfl, rfl⟩ | ⟨rfl, rfl⟩
    · go_wp2
      exact ⟨Or.inr (⟨rfl, rfl⟩), by simp [intOf]⟩
    · go_wp2_with fail
      go_loop [5, 7] (fun x i => (x = .string ⟨#[l, 35]⟩ ∧ i = .int .i64 0)) (fun _ i => 0 - (intOf i).toNat)
      case atStart => exact ⟨rfl, rfl⟩
      case round =>
        obtain ⟨rfl, rfl⟩ := hrel
        go_wp2
        go_ret2
        exact ⟨rfl, hB1⟩

set_option maxRecDepth 100000 in
set_option maxHeartbeats 4000000 in
theorem refText_p2n (s : Int) (w : World) (h : Pit.right s 2 (-1) = true) (l : UInt8) (s1 : Int) (hs1 : s + 1 = s1) (b0 : 0 ≤ s) (b1 : s ≤ s1) (b2 : s1 ≤ 7) (hex : (ByteArray.mk #[67, 68, 69, 70, 71, 65, 66]).extract s.toNat s1.toNat = ⟨[l].toArray⟩) :
    Calls Tryd.prog 19 #[pt s 2 (-1)] w fun e w' => e = .returned (.tuple #[.string ⟨#[l, 35, 35, 45, 49]⟩, .int .i64 0]) ∧ Below w.heap.size w w' := by
  have a0 : ∀ w : World, (Op.stringOp .add ⟨#[l]⟩ ⟨#[35]⟩).run Tryd.prog w = .ok (.string ⟨#[l, 35]⟩) w := fun w => run_string_add_lists w [l] [35] (by simp) (by simp)
  have a1 : ∀ w : World, (Op.stringOp .add ⟨#[l, 35]⟩ ⟨#[35]⟩).run Tryd.prog w = .ok (.string ⟨#[l, 35, 35]⟩) w := fun w => run_string_add_lists w [l, 35] [35] (by simp) (by simp)
  have at0 : ∀ w : World, (Op.stringOp .add ⟨#[l, 35, 35]⟩ ⟨#[45, 49]⟩).run Tryd.prog w = .ok (.string ⟨#[l, 35, 35, 45, 49]⟩) w := fun w => run_string_add_lists w [l, 35, 35] [45, 49] (by simp) (by simp)
  have hB0 : Below w.heap.size w w := Below.refl _ _
  go_enter Tryd.func19, Tryd.ntmps19
  go_wp2_with fail
  refine (refRight_any _ _ _ _).mono ?_
  rintro e w1 ⟨rfl, hb1⟩
  have hs1 : Below w.heap.size w w1 := Below.trans (by repeat (first | exact Below.refl _ _ | refine Below.alloc ?_ (by simp <;> omega) _)) (hb1.mono (by simp <;> omega))
  have c_p_0 : w1.cell? ⟨w.heap.size, 0, none⟩ = some (.int .i64 s) := (hb1.cell (by simp <;> omega)).trans (by go_simp)
  have c_p_1 : w1.cell? ⟨w.heap.size, 1, none⟩ = some (.int .i64 2) := (hb1.cell (by simp <;> omega)).trans (by go_simp)
  have c_p_2 : w1.cell? ⟨w.heap.size, 2, none⟩ = some (.int .i64 (-1)) := (hb1.cell (by simp <;> omega)).trans (by go_simp)
  have z_p := World.block_lt_of_cell? _ _ c_p_0
  have hB1 := below_two hB0 hs1
  clear hB0 hs1 hb1
  rw [h]
  go_wp2_with fail
  go_loop [5, 6] (fun x i => (x = .string ⟨#[l]⟩ ∧ i = .int .i64 0) ∨ (x = .string ⟨#[l, 35]⟩ ∧ i = .int .i64 1) ∨ (x = .string ⟨#[l, 35, 35]⟩ ∧ i = .int .i64 2)) (fun _ i => 2 - (intOf i).toNat)
  case atStart => exact Or.inl ⟨rfl, rfl⟩
  case round =>
    rcases hrel with ⟨rfl, rfl⟩ | ⟨rfl, rfl⟩ | ⟨rfl, rfl⟩
    · go_wp2
      exact ⟨Or.inr (Or.inl ⟨rfl, rfl⟩), by simp [intOf]⟩
    · go_wp2
      exact ⟨Or.inr (Or.inr (⟨rfl, rfl⟩)), by simp [intOf]⟩
    · go_wp2_with fail
      go_loop [5, 7] (fun x i => (x = .string ⟨#[l, 35, 35]⟩ ∧ i = .int .i64 0)) (fun _ i => 0 - (intOf i).toNat)
      case atStart => exact ⟨rfl, rfl⟩
      case round =>
        obtain ⟨rfl, rfl⟩ := hrel
        go_wp2
        go_ret2
        exact ⟨rfl, hB1⟩

set_option maxRecDepth 100000 in
set_option maxHeartbeats 4000000 in
theorem refText_p2d (s o : Int) (w : World) (h : Pit.right s 2 o = true) (l : UInt8) (s1 : Int) (hs1 : s + 1 = s1) (b0 : 0 ≤ s) (b1 : s ≤ s1) (b2 : s1 ≤ 7) (hex : (ByteArray.mk #[67, 68, 69, 70, 71, 65, 66]).extract s.toNat s1.toNat = ⟨[l].toArray⟩) (o1 : Int) (d : UInt8) (ho1 : o + 1 = o1) (o0 : 0 ≤ o) (o2 : o ≤ o1) (o3 : o1 ≤ 10) (hed : (ByteArray.mk #[48, 49, 50, 51, 52, 53, 54, 55, 56, 57]).extract o.toNat o1.toNat = ⟨[d].toArray⟩) :
    Calls Tryd.prog 19 #[pt s 2 o] w fun e w' => e = .returned (.tuple #[.string ⟨#[l, 35, 35, d]⟩, .int .i64 0]) ∧ Below w.heap.size w w' := by
  have a0 : ∀ w : World, (Op.stringOp .add ⟨#[l]⟩ ⟨#[35]⟩).run Tryd.prog w = .ok (.string ⟨#[l, 35]⟩) w := fun w => run_string_add_lists w [l] [35] (by simp) (by simp)
  have a1 : ∀ w : World, (Op.stringOp .add ⟨#[l, 35]⟩ ⟨#[35]⟩).run Tryd.prog w = .ok (.string ⟨#[l, 35, 35]⟩) w := fun w => run_string_add_lists w [l, 35] [35] (by simp) (by simp)
  have at0 : ∀ w : World, (Op.stringOp .add ⟨#[l, 35, 35]⟩ ⟨#[d]⟩).run Tryd.prog w = .ok (.string ⟨#[l, 35, 35, d]⟩) w := fun w => run_string_add_lists w [l, 35, 35] [d] (by simp) (by simp)
  have hB0 : Below w.heap.size w w := Below.refl _ _
  go_enter Tryd.func19, Tryd.ntmps19
  go_wp2_with fail
  refine (refRight_any _ _ _ _).mono ?_
  rintro e w1 ⟨rfl, hb1⟩
  have hs1 : Below w.heap.size w w1 := Below.trans (by repeat (first | exact Below.refl _ _ | refine Below.alloc ?_ (by simp <;> omega) _)) (hb1.mono (by simp <;> omega))
  have c_p_0 : w1.cell? ⟨w.heap.size, 0, none⟩ = some (.int .i64 s) := (hb1.cell (by simp <;> omega)).trans (by go_simp)
  have c_p_1 : w1.cell? ⟨w.heap.size, 1, none⟩ = some (.int .i64 2) := (hb1.cell (by simp <;> omega)).trans (by go_simp)
  have c_p_2 : w1.cell? ⟨w.heap.size, 2, none⟩ = some (.int .i64 o) := (hb1.cell (by simp <;> omega)).trans (by go_simp)
  have z_p := World.block_lt_of_cell? _ _ c_p_0
  have hB1 := below_two hB0 hs1
  clear hB0 hs1 hb1
  rw [h]
  go_wp2_with fail
  go_loop [5, 6] (fun x i => (x = .string ⟨#[l]⟩ ∧ i = .int .i64 0) ∨ (x = .string ⟨#[l, 35]⟩ ∧ i = .int .i64 1) ∨ (x = .string ⟨#[l, 35, 35]⟩ ∧ i = .int .i64 2)) (fun _ i => 2 - (intOf i).toNat)
  case atStart => exact Or.inl ⟨rfl, rfl⟩
  case round =>
    rcases hrel with ⟨rfl, rfl⟩ | ⟨rfl, rfl⟩ | ⟨rfl, rfl⟩
    · go_wp2
      exact ⟨Or.inr (Or.inl ⟨rfl, rfl⟩), by simp [intOf]⟩
    · go_wp2
      exact ⟨Or.inr (Or.inr (⟨rfl, rfl⟩)), by simp [intOf]⟩
    · go_wp2_with fail
      go_loop [5, 7] (fun x i => (x = .string ⟨#[l, 35, 35]⟩ ∧ i = .int .i64 0)) (fun _ i => 0 - (intOf i).toNat)
      case atStart => exact ⟨rfl, rfl⟩
      case round =>
        obtain ⟨rfl, rfl⟩ := hrel
        go_wp2
        go_ret2
        exact ⟨rfl, hB1⟩

def digB (o : Int) : UInt8 := [48, 49, 50, 51, 52, 53, 54, 55, 56, 57].getD o.toNat 0
theorem digit_at {o : Int} (h0 : 0 ≤ o) (h9 : o ≤ 9) : (ByteArray.mk #[48, 49, 50, 51, 52, 53, 54, 55, 56, 57]).extract o.toNat (o + 1).toNat = ⟨[digB o].toArray⟩ ∧ Lib.itoa o = [digB o] := by
  have key : ∀ k : Fin 10, ((ByteArray.mk #[48, 49, 50, 51, 52, 53, 54, 55, 56, 57]).extract k.val (k.val + 1)).data.toList = [digB (k.val : Int)] ∧ Lib.itoa (k.val : Int) = [digB (k.val : Int)] := by decide +kernel
  have := key ⟨o.toNat, by omega⟩
  rw [show (o + 1).toNat = o.toNat + 1 by omega]
  simp only at this
  rw [show ((o.toNat : Nat) : Int) = o by omega] at this
  refine ⟨?_, this.2⟩
  apply ByteArray.ext
  apply Array.ext'
  exact this.1
theorem itoa_m1 : Lib.itoa (-1) = [45, 49] := by decide +kernel
theorem refText_yes (s a o : Int) (w : World) (h : Pit.IsRight s a o) :
    Calls Tryd.prog 19 #[pt s a o] w fun e w' => e = .returned (.tuple #[.string ⟨(Pit.txt s a o).toArray⟩, .int .i64 0]) ∧ Below w.heap.size w w' := by
  obtain ⟨h0, h1, h2, h3, h4, h5, -⟩ := h.all
  have hr := Pit.right_true h
  have hl := letter_at h0 h1
  unfold Pit.txt
  by_cases ho : o = -1
  · subst ho
    rw [itoa_m1]
    obtain rfl | rfl | rfl | rfl | rfl : a = -2 ∨ a = -1 ∨ a = 0 ∨ a = 1 ∨ a = 2 := by omega
    · exact refText_m2n s w hr _ _ rfl h0 (by omega) (by omega) hl
    · exact refText_m1n s w hr _ _ rfl h0 (by omega) (by omega) hl
    · exact refText_p0n s w hr _ _ rfl h0 (by omega) (by omega) hl
    · exact refText_p1n s w hr _ _ rfl h0 (by omega) (by omega) hl
    · exact refText_p2n s w hr _ _ rfl h0 (by omega) (by omega) hl
  · obtain ⟨e1, e2⟩ := digit_at (o := o) (by omega) h5
    rw [e2]
    obtain rfl | rfl | rfl | rfl | rfl : a = -2 ∨ a = -1 ∨ a = 0 ∨ a = 1 ∨ a = 2 := by omega
    · exact refText_m2d s o w hr _ _ rfl h0 (by omega) (by omega) hl _ _ rfl (by omega) (by omega) (by omega) e1
    · exact refText_m1d s o w hr _ _ rfl h0 (by omega) (by omega) hl _ _ rfl (by omega) (by omega) (by omega) e1
    · exact refText_p0d s o w hr _ _ rfl h0 (by omega) (by omega) hl _ _ rfl (by omega) (by omega) (by omega) e1
    · exact refText_p1d s o w hr _ _ rfl h0 (by omega) (by omega) hl _ _ rfl (by omega) (by omega) (by omega) e1
    · exact refText_p2d s o w hr _ _ rfl h0 (by omega) (by omega) hl _ _ rfl (by omega) (by omega) (by omega) e1
theorem refText_any (s a o : Int) (w : World) :
    Calls Tryd.prog 19 #[pt s a o] w fun e w' => e = .returned (.tuple #[.string ⟨(txtV (Pit.right s a o) s a o).toArray⟩, .int .i64 (errP (Pit.right s a o))]) ∧ Below w.heap.size w w' := by
  cases h : Pit.right s a o
  · exact refText_no s a o w h
  · exact refText_yes s a o w ((Pit.right_iff _ _ _).1 h)
end Go.Proofs.YtoopchnncjfjoaaDoor
