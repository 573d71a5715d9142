/-
  RatioTells holds: the law's walk.
-/
import Derived.Test.YtgndmaihhkhnpaaDoorRatTold
namespace Go.Proofs.YtgndmaihhkhnpaaDoor
open Go.RowKit

set_option maxRecDepth 100000 in
set_option maxHeartbeats 4000000 in
theorem tells_w (num den a b c d xn xd yn yd on od oe rn rd' re : Int) (s : ByteArray) (w : World) (hR : Ready w) (in1 : Rat.I64 num) (in2 : Rat.I64 den) (ha : Rat.I64 a) (hb : Rat.I64 b) (hc : Rat.I64 c) (hd : Rat.I64 d) (hxn : Rat.I64 xn) (hxd : Rat.I64 xd) (hyn : Rat.I64 yn) (hyd : Rat.I64 yd) (HX : Hid (∀ w, Calls Tryd.prog 17 #[rt a b] w fun e w' => e = .returned (rt xn xd) ∧ Below w.heap.size w w')) (HY : Hid (∀ w, Calls Tryd.prog 17 #[rt c d] w fun e w' => e = .returned (rt yn yd) ∧ Below w.heap.size w w')) (HO : Hid (Rat.ofN num den = on ∧ Rat.ofD num den = od ∧ Rat.ofE num den = oe)) (F : ByteArray) (hF : F.size ≤ 30) (HF : Hid (s.extract 0 (min (s.size : Int) 30).toNat = F)) (HR1 : Hid (rdV (rd F.data.toList) = rv rn rd' re)) : Calls Tryd.prog 3 #[.int .i64 num, .int .i64 den, rt a b, rt c d, .string s] w fun e w' => e = .returned (.bool true) ∧ Below w.heap.size w w' := by
  have hgR := guardR
  have heq := eql_rt
  have hself := eqR_self
  have hB0 : Below w.heap.size w w := Below.refl _ _
  go_enter Tryd.func3, Tryd.ntmps3
  go_wp2_with fail
  have hR' := hR.below (((Below.refl _ _).alloc (Nat.le_refl _) (.cells #[.int .i64 a, .int .i64 b] 23)).alloc (by simp) (.cells #[.int .i64 c, .int .i64 d] 23))
  refine (examples_any _ hR').mono ?_
  rintro e w1 ⟨rfl, hb1⟩
  have hs1 : Below w.heap.size w w1 := Below.trans (by repeat (first | exact Below.refl _ _ | refine Below.alloc ?_ (by simp <;> omega) _)) (hb1.mono (by simp <;> omega))
  have c_p_0 : w1.cell? ⟨w.heap.size, 0, none⟩ = some (.int .i64 a) := (hb1.cell (by simp <;> omega)).trans (by go_simp)
  have c_p_1 : w1.cell? ⟨w.heap.size, 1, none⟩ = some (.int .i64 b) := (hb1.cell (by simp <;> omega)).trans (by go_simp)
  have c_p2_0 : w1.cell? ⟨w.heap.size + 1, 0, none⟩ = some (.int .i64 c) := (hb1.cell (by simp <;> omega)).trans (by go_simp)
  have c_p2_1 : w1.cell? ⟨w.heap.size + 1, 1, none⟩ = some (.int .i64 d) := (hb1.cell (by simp <;> omega)).trans (by go_simp)
  have z_p := World.block_lt_of_cell? _ _ c_p_0
  have z_p2 := World.block_lt_of_cell? _ _ c_p2_0
  have hB1 := below_two hB0 hs1
  replace hR := hR.below hs1
  clear hB0 hs1 hb1
  clear hR'
  go_wp2_with fail
  rw [HF.out]
  refine (of_any _ _ _ in1 in2).mono ?_
  rintro e w2 ⟨rfl, hb2⟩
  have hs2 := hb2
  replace c_p_0 := cell_later hs2 c_p_0
  replace c_p_1 := cell_later hs2 c_p_1
  replace c_p2_0 := cell_later hs2 c_p2_0
  replace c_p2_1 := cell_later hs2 c_p2_1
  clear z_p
  have z_p := World.block_lt_of_cell? _ _ c_p_0
  clear z_p2
  have z_p2 := World.block_lt_of_cell? _ _ c_p2_0
  have hB2 := below_two hB1 hs2
  replace hR := hR.below hs2
  clear hB1 hs2
  rw [HO.out.1, HO.out.2.1, HO.out.2.2]
  go_wp2_with fail
  refine (refOf_any _ _ _ in1 in2).mono ?_
  rintro e w3 ⟨rfl, hb3⟩
  have hs3 : Below w2.heap.size w2 w3 := Below.trans (by repeat (first | exact Below.refl _ _ | refine Below.alloc ?_ (by simp <;> omega) _)) (hb3.mono (by simp <;> omega))
  replace c_p_0 := cell_later hs3 c_p_0
  replace c_p_1 := cell_later hs3 c_p_1
  replace c_p2_0 := cell_later hs3 c_p2_0
  replace c_p2_1 := cell_later hs3 c_p2_1
  have c_o_0 : w3.cell? ⟨w2.heap.size, 0, none⟩ = some (.int .i64 on) := (hb3.cell (by simp <;> omega)).trans (by go_simp)
  have c_o_1 : w3.cell? ⟨w2.heap.size, 1, none⟩ = some (.int .i64 od) := (hb3.cell (by simp <;> omega)).trans (by go_simp)
  have z_o := World.block_lt_of_cell? _ _ c_o_0
  clear z_p
  have z_p := World.block_lt_of_cell? _ _ c_p_0
  clear z_p2
  have z_p2 := World.block_lt_of_cell? _ _ c_p2_0
  have hB3 := below_two hB2 hs3
  replace hR := hR.below hs3
  clear hB2 hs3 hb3
  rw [HO.out.1, HO.out.2.1, HO.out.2.2]
  go_wp2_with fail
  have hR' := hR.below ((Below.refl _ _).alloc (Nat.le_refl _) (.cells #[.int .i64 on, .int .i64 od] 23))
  refine (read_any _ _ hR' (by omega)).mono ?_
  rintro e w4 ⟨rfl, hb4⟩
  have hs4 : Below w3.heap.size w3 w4 := Below.trans (by repeat (first | exact Below.refl _ _ | refine Below.alloc ?_ (by simp <;> omega) _)) (hb4.mono (by simp <;> omega))
  replace c_p_0 := cell_later hs4 c_p_0
  replace c_p_1 := cell_later hs4 c_p_1
  replace c_p2_0 := cell_later hs4 c_p2_0
  replace c_p2_1 := cell_later hs4 c_p2_1
  replace c_o_0 := cell_later hs4 c_o_0
  replace c_o_1 := cell_later hs4 c_o_1
  have c_q_0 : w4.cell? ⟨w3.heap.size, 0, none⟩ = some (.int .i64 on) := (hb4.cell (by simp <;> omega)).trans (by go_simp)
  have c_q_1 : w4.cell? ⟨w3.heap.size, 1, none⟩ = some (.int .i64 od) := (hb4.cell (by simp <;> omega)).trans (by go_simp)
  clear z_o
  have z_o := World.block_lt_of_cell? _ _ c_o_0
  clear z_p
  have z_p := World.block_lt_of_cell? _ _ c_p_0
  clear z_p2
  have z_p2 := World.block_lt_of_cell? _ _ c_p2_0
  have z_q := World.block_lt_of_cell? _ _ c_q_0
  have hB4 := below_two hB3 hs4
  replace hR := hR.below hs4
  clear hB3 hs4 hb4
  clear hR'
  rw [HR1.out]
  go_wp2_with fail
  refine (refRead_any _ _ hF).mono ?_
  rintro e w5 ⟨rfl, hb5⟩
  have hs5 : Below w4.heap.size w4 w5 := Below.trans (by repeat (first | exact Below.refl _ _ | refine Below.alloc ?_ (by simp <;> omega) _)) (hb5.mono (by simp <;> omega))
  replace c_p_0 := cell_later hs5 c_p_0
  replace c_p_1 := cell_later hs5 c_p_1
  replace c_p2_0 := cell_later hs5 c_p2_0
  replace c_p2_1 := cell_later hs5 c_p2_1
  replace c_o_0 := cell_later hs5 c_o_0
  replace c_o_1 := cell_later hs5 c_o_1
  replace c_q_0 := cell_later hs5 c_q_0
  replace c_q_1 := cell_later hs5 c_q_1
  have c_r_0 : w5.cell? ⟨w4.heap.size, 0, none⟩ = some (.int .i64 rn) := (hb5.cell (by simp <;> omega)).trans (by go_simp)
  have c_r_1 : w5.cell? ⟨w4.heap.size, 1, none⟩ = some (.int .i64 rd') := (hb5.cell (by simp <;> omega)).trans (by go_simp)
  clear z_o
  have z_o := World.block_lt_of_cell? _ _ c_o_0
  clear z_p
  have z_p := World.block_lt_of_cell? _ _ c_p_0
  clear z_p2
  have z_p2 := World.block_lt_of_cell? _ _ c_p2_0
  clear z_q
  have z_q := World.block_lt_of_cell? _ _ c_q_0
  have z_r := World.block_lt_of_cell? _ _ c_r_0
  have hB5 := below_two hB4 hs5
  replace hR := hR.below hs5
  clear hB4 hs5 hb5
  rw [HR1.out]
  go_wp2_with fail
  have hb9 := (Below.refl w5.heap.size w5).alloc (Nat.le_refl _) (.cells #[.int .i64 rn, .int .i64 rd'] 23)
  have c_t_0 : (w5.alloc (.cells #[.int .i64 rn, .int .i64 rd'] 23)).cell? ⟨w5.heap.size, 0, none⟩ = some (.int .i64 rn) := by go_simp
  have c_t_1 : (w5.alloc (.cells #[.int .i64 rn, .int .i64 rd'] 23)).cell? ⟨w5.heap.size, 1, none⟩ = some (.int .i64 rd') := by go_simp
  replace hR := hR.below hb9
  have hB := below_two hB5 hb9
  replace c_p_0 := cell_later hb9 c_p_0
  replace c_p_1 := cell_later hb9 c_p_1
  replace c_p2_0 := cell_later hb9 c_p2_0
  replace c_p2_1 := cell_later hb9 c_p2_1
  replace c_o_0 := cell_later hb9 c_o_0
  replace c_o_1 := cell_later hb9 c_o_1
  replace c_q_0 := cell_later hb9 c_q_0
  replace c_q_1 := cell_later hb9 c_q_1
  replace c_r_0 := cell_later hb9 c_r_0
  replace c_r_1 := cell_later hb9 c_r_1
  clear hb9 hB5
  generalize w5.alloc (.cells #[.int .i64 rn, .int .i64 rd'] 23) = w9 at *
  go_region_held3 (fun w' => w'.cell? ⟨w.heap.size, 0, none⟩ = some (.int .i64 a) ∧ w'.cell? ⟨w.heap.size, 1, none⟩ = some (.int .i64 b) ∧ w'.cell? ⟨w.heap.size + 1, 0, none⟩ = some (.int .i64 c) ∧ w'.cell? ⟨w.heap.size + 1, 1, none⟩ = some (.int .i64 d) ∧ w'.cell? ⟨w2.heap.size, 0, none⟩ = some (.int .i64 on) ∧ w'.cell? ⟨w2.heap.size, 1, none⟩ = some (.int .i64 od) ∧ w'.cell? ⟨w3.heap.size, 0, none⟩ = some (.int .i64 on) ∧ w'.cell? ⟨w3.heap.size, 1, none⟩ = some (.int .i64 od) ∧ w'.cell? ⟨w4.heap.size, 0, none⟩ = some (.int .i64 rn) ∧ w'.cell? ⟨w4.heap.size, 1, none⟩ = some (.int .i64 rd') ∧ w'.cell? ⟨w5.heap.size, 0, none⟩ = some (.int .i64 rn) ∧ w'.cell? ⟨w5.heap.size, 1, none⟩ = some (.int .i64 rd') ∧ Ready w' ∧ Below w.heap.size w w')
    (((try go_split_ands); refine ⟨?_, ?_, ?_, ?_, ?_, ?_, ?_, ?_, ?_, ?_, ?_, ?_, ?_, ?_⟩ <;> first | assumption | (refine cell_later hq ?_; assumption) | (refine below_two ?_ hq; assumption) | (refine Ready.below ?_ hq; assumption) | exact c_p_0 | exact c_p_1 | exact c_p2_0 | exact c_p2_1 | exact c_o_0 | exact c_o_1 | exact c_q_0 | exact c_q_1 | exact c_r_0 | exact c_r_1 | exact c_t_0 | exact c_t_1 | exact hB.drew | exact hR.below ((Below.refl _ _).drew)))
    (first
      | (go_at_call 16; (try go_split_ands); refine (told_any _ _ _ _ _ ?_ ?_ ?_ ?_ ?_).mono ?_; (first | exact ha | exact hxn); (first | exact hb | exact hxd); (first | exact hc | exact hyn); (first | exact hd | exact hyd); assumption; rintro e w' ⟨rfl, hq⟩)
      | (go_at_call_of 17 (Value.agg #[Value.int IntKind.i64 a, Value.int IntKind.i64 b]); refine (HX.out _).mono ?_; rintro e w' ⟨rfl, hq⟩)
      | (go_at_call_of 17 (Value.agg #[Value.int IntKind.i64 c, Value.int IntKind.i64 d]); refine (HY.out _).mono ?_; rintro e w' ⟨rfl, hq⟩))
  rename_i hS
  obtain ⟨-, -, -, -, -, -, -, -, -, -, -, -, -, hBl⟩ := hS
  go_wp2
  go_ret
  exact ⟨rfl, hBl⟩

theorem rdV_rv (o : Option (Int × Int)) : ∃ x y e, rdV o = rv x y e := by
  cases o with
  | none => exact ⟨0, 0, 12, rfl⟩
  | some p => exact ⟨p.1, p.2, 0, rfl⟩
theorem right_i64 {n d : Int} (h : Rat.IsRight n d) : Rat.I64 n ∧ Rat.I64 d := by
  obtain ⟨d1, d2, n1, n2⟩ := right_bounds h
  exact ⟨i64_small n1 n2, i64_small (by omega) d2⟩
theorem ratioTells_calls (num den a b c d : Int) (s : ByteArray) (in1 : Rat.I64 num) (in2 : Rat.I64 den) (ha : Rat.I64 a) (hb : Rat.I64 b) (hc : Rat.I64 c) (hd : Rat.I64 d) (_hs : s.size ≤ maxLen) (w : World) (hR : Ready w) : LawHolds 3 #[.int .i64 num, .int .i64 den, rt a b, rt c d, .string s] w := by
  obtain ⟨xn, xd, hx, hX⟩ := ratio_fix a b ha hb
  obtain ⟨yn, yd, hy, hY⟩ := ratio_fix c d hc hd
  obtain ⟨i1, i2⟩ := right_i64 hx
  obtain ⟨i3, i4⟩ := right_i64 hy
  obtain ⟨x, y, e, hv⟩ := rdV_rv (rd (s.extract 0 (min (s.size : Int) 30).toNat).data.toList)
  exact tells_w num den a b c d xn xd yn yd _ _ _ x y e s w hR in1 in2 ha hb hc hd i1 i2 i3 i4 (Lib.hid hX) (Lib.hid hY) (Lib.hid ⟨rfl, rfl, rfl⟩) _ (few_size s) (Lib.hid rfl) (Lib.hid hv)
end Go.Proofs.YtgndmaihhkhnpaaDoor
