/-
  '==' on values; the contracts of the statements' own pick, Value and length.
-/
import Derived.Test.YtejiifkenanodaaGreatDoorValI
namespace Go.Proofs.YtejiifkenanodaaGreatDoor
open Go.RowKit

/-- Are two values the same, field by field? -/
def eqV (a b c d x y z u : Int) : Bool := (a == x && b == y) && (c == z && d == u)
theorem eqV_iff (a b c d x y z u : Int) : eqV a b c d x y z u = true ↔ a = x ∧ b = y ∧ c = z ∧ d = u := by unfold eqV; simp; omega
theorem eqV_self (a b c d : Int) : eqV a b c d a b c d = true := (eqV_iff _ _ _ _ _ _ _ _).2 ⟨rfl, rfl, rfl, rfl⟩
theorem guardV : Tryz.prog.eqGuardType Tryz.prog.depth 23 = false := by kernel_rfl

theorem eql_vl (a b c d x y z u : Int) (w : World) : (binOp .eql 23 (vl a b c d) (vl x y z u)).run Tryz.prog w = .ok (.bool (eqV a b c d x y z u)) w := by
  have u3 := Tryz.underlying3
  have a3 := Tryz.isAgg3
  have z3 := Tryz.sizeOf3
  have hS : Tryz.prog.underlying 23 = some (.struct (Tryz.prog.fieldsOf 23)) := by kernel_rfl
  have hp : Tryz.prog.stoodInHeld 23 = false := by kernel_rfl
  rw [run_eql_struct, show (10000 : Nat) = 9999 + 1 from rfl, run_equalIn_agg w 9999 23 _ _ hS hp]
  simp only [Program.fieldsOf, Tryz.underlying23]
  go_simp
  unfold eqV
  by_cases h1 : a = x <;> by_cases h2 : b = y <;> by_cases h3 : c = z <;> by_cases h4 : d = u <;> simp [h1, h2, h3, h4]

theorem neq_vl (a b c d x y z u : Int) (w : World) : (binOp .neq 23 (vl a b c d) (vl x y z u)).run Tryz.prog w = .ok (.bool (!eqV a b c d x y z u)) w := by
  have u3 := Tryz.underlying3
  have a3 := Tryz.isAgg3
  have z3 := Tryz.sizeOf3
  have hS : Tryz.prog.underlying 23 = some (.struct (Tryz.prog.fieldsOf 23)) := by kernel_rfl
  have hp : Tryz.prog.stoodInHeld 23 = false := by kernel_rfl
  rw [run_neq_struct, show (10000 : Nat) = 9999 + 1 from rfl, run_equalIn_agg w 9999 23 _ _ hS hp]
  simp only [Program.fieldsOf, Tryz.underlying23]
  go_simp
  unfold eqV
  by_cases h1 : a = x <;> by_cases h2 : b = y <;> by_cases h3 : c = z <;> by_cases h4 : d = u <;> simp [h1, h2, h3, h4]

set_option maxHeartbeats 1000000 in
theorem pick_any (c n : Int) (w : World) (hc : Rat.I64 c) (hn : 1 ≤ n) (hn2 : n ≤ 2000001) :
    Calls Tryz.prog 23 #[.int .i64 c, .int .i64 n] w fun e w' => e = .returned (.int .i64 (pickS c n)) ∧ w = w' := by
  have hz : (n == 0) = false := by simp; omega
  by_cases h : c < 0
  · have hx := pick_neg hc h
    obtain ⟨h0, hI⟩ := pick_in hc h
    have hm := mod_walk hI h0 hn hn2
    have HP : Hid (pickS c n = -(c + 1) % n) := Lib.hid (by unfold pickS; rw [if_pos h])
    generalize -(c + 1) = x at *
    go_enter Tryz.func23, Tryz.ntmps23
    go_wp2
    go_ret
    refine ⟨ret_int ?_, rfl⟩
    rw [HP.out]
  · have h0 : 0 ≤ c := by omega
    have hm := mod_walk hc h0 hn hn2
    have HP : Hid (pickS c n = c % n) := Lib.hid (by unfold pickS; rw [if_neg h])
    go_enter Tryz.func23, Tryz.ntmps23
    go_wp2
    go_ret
    refine ⟨ret_int ?_, rfl⟩
    rw [HP.out]


set_option maxRecDepth 100000 in
set_option maxHeartbeats 4000000 in
theorem len_any (b d n e : Int) (w : World) (hR : Vars w) :
    Calls Tryz.prog 28 #[vl b d n e] w fun ed w' => ed = .returned (rt (Val.lenN b d n e) (Val.lenD b d n e)) ∧ Below w.heap.size w w' := by
  obtain ⟨X, HX⟩ : ∃ X, Hid (Val.lenN b d n e = X) := ⟨_, Lib.hid rfl⟩
  obtain ⟨Y, HY⟩ : ∃ Y, Hid (Val.lenD b d n e = Y) := ⟨_, Lib.hid rfl⟩
  have hB0 : Below w.heap.size w w := Below.refl _ _
  go_enter Tryz.func28, Tryz.ntmps28
  go_wp2_with fail
  have hR' := hR.below ((hB0.alloc hB0.size (.cells #[.int .i64 b, .int .i64 d, .int .i64 n, .int .i64 e] 23)).alloc (hB0.alloc hB0.size (.cells #[.int .i64 b, .int .i64 d, .int .i64 n, .int .i64 e] 23)).size (.cells #[.int .i64 0, .int .i64 0] 25))
  refine (length_any b d n e _ hR').mono ?_
  rintro e w1 ⟨rfl, hb1⟩
  clear hR'
  have hs1 : Below w.heap.size w w1 := Below.trans (by repeat (first | exact Below.refl _ _ | refine Below.alloc ?_ (by simp <;> omega) _)) (hb1.mono (by simp <;> omega))
  have c_r_0 : w1.cell? ⟨w.heap.size + 1, 0, none⟩ = some (.int .i64 0) := (hb1.cell (by simp <;> omega)).trans (by go_simp)
  have f_r_0 : w1.frozen? ⟨w.heap.size + 1, 0, none⟩ = false := (hb1.frozen (by simp <;> omega)).trans (by go_simp)
  have c_r_1 : w1.cell? ⟨w.heap.size + 1, 1, none⟩ = some (.int .i64 0) := (hb1.cell (by simp <;> omega)).trans (by go_simp)
  have f_r_1 : w1.frozen? ⟨w.heap.size + 1, 1, none⟩ = false := (hb1.frozen (by simp <;> omega)).trans (by go_simp)
  have z_r := World.block_lt_of_cell? _ _ c_r_0
  have hB1 := below_two hB0 hs1
  clear hB0 hs1 hb1
  rw [HX.out, HY.out]
  generalize Val.lenE b d n e = E at *
  obtain ⟨m0, m1⟩ := put2_of (x := .int .i64 X) (y := .int .i64 Y) c_r_0 c_r_1
  replace m0 := alloc_cell (o := .cells #[.int .i64 X, .int .i64 Y] 25) m0
  replace m1 := alloc_cell (o := .cells #[.int .i64 X, .int .i64 Y] 25) m1
  go_wp2
  exact bodyPost_ret (v := rt X Y) (by simp [results, Tryz.results28, go_sem, m0, m1]) rfl ⟨by rw [HX.out, HY.out], alloc_below (put2_below hB1 (by omega))⟩

set_option maxRecDepth 100000 in
set_option maxHeartbeats 4000000 in
theorem value_no (b d n e : Int) (w : World) (ib : Rat.I64 b) (id' : Rat.I64 d) (in' : Rat.I64 n) (x y r : Int) (HX : Hid (pickS b 7 = x)) (HY : Hid (pickS d 3 = y)) (HR : Hid (pickS n 4 = r)) (hr : ¬ 0 < r) :
    Calls Tryz.prog 14 #[vl b d n e] w fun ed w' => ed = .returned (vl x y 0 0) ∧ Below w.heap.size w w' := by
  have hB0 : Below w.heap.size w w := Below.refl _ _
  go_enter Tryz.func14, Tryz.ntmps14
  go_wp2_with fail
  have hs1 : Below w.heap.size w ((w.alloc (.cells #[.int .i64 b, .int .i64 d, .int .i64 n, .int .i64 e] 23)).alloc (.cells #[.int .i64 0, .int .i64 0, .int .i64 0, .int .i64 0] 23)) := by repeat (first | exact Below.refl _ _ | refine Below.alloc ?_ (by simp <;> omega) _)
  have c_p_0 : ((w.alloc (.cells #[.int .i64 b, .int .i64 d, .int .i64 n, .int .i64 e] 23)).alloc (.cells #[.int .i64 0, .int .i64 0, .int .i64 0, .int .i64 0] 23)).cell? ⟨w.heap.size, 0, none⟩ = some (.int .i64 b) := by go_simp
  have c_p_1 : ((w.alloc (.cells #[.int .i64 b, .int .i64 d, .int .i64 n, .int .i64 e] 23)).alloc (.cells #[.int .i64 0, .int .i64 0, .int .i64 0, .int .i64 0] 23)).cell? ⟨w.heap.size, 1, none⟩ = some (.int .i64 d) := by go_simp
  have c_p_2 : ((w.alloc (.cells #[.int .i64 b, .int .i64 d, .int .i64 n, .int .i64 e] 23)).alloc (.cells #[.int .i64 0, .int .i64 0, .int .i64 0, .int .i64 0] 23)).cell? ⟨w.heap.size, 2, none⟩ = some (.int .i64 n) := by go_simp
  have c_p_3 : ((w.alloc (.cells #[.int .i64 b, .int .i64 d, .int .i64 n, .int .i64 e] 23)).alloc (.cells #[.int .i64 0, .int .i64 0, .int .i64 0, .int .i64 0] 23)).cell? ⟨w.heap.size, 3, none⟩ = some (.int .i64 e) := by go_simp
  have c_r_0 : ((w.alloc (.cells #[.int .i64 b, .int .i64 d, .int .i64 n, .int .i64 e] 23)).alloc (.cells #[.int .i64 0, .int .i64 0, .int .i64 0, .int .i64 0] 23)).cell? ⟨w.heap.size + 1, 0, none⟩ = some (.int .i64 0) := by go_simp
  have f_r_0 : ((w.alloc (.cells #[.int .i64 b, .int .i64 d, .int .i64 n, .int .i64 e] 23)).alloc (.cells #[.int .i64 0, .int .i64 0, .int .i64 0, .int .i64 0] 23)).frozen? ⟨w.heap.size + 1, 0, none⟩ = false := by go_simp
  have c_r_1 : ((w.alloc (.cells #[.int .i64 b, .int .i64 d, .int .i64 n, .int .i64 e] 23)).alloc (.cells #[.int .i64 0, .int .i64 0, .int .i64 0, .int .i64 0] 23)).cell? ⟨w.heap.size + 1, 1, none⟩ = some (.int .i64 0) := by go_simp
  have f_r_1 : ((w.alloc (.cells #[.int .i64 b, .int .i64 d, .int .i64 n, .int .i64 e] 23)).alloc (.cells #[.int .i64 0, .int .i64 0, .int .i64 0, .int .i64 0] 23)).frozen? ⟨w.heap.size + 1, 1, none⟩ = false := by go_simp
  have c_r_2 : ((w.alloc (.cells #[.int .i64 b, .int .i64 d, .int .i64 n, .int .i64 e] 23)).alloc (.cells #[.int .i64 0, .int .i64 0, .int .i64 0, .int .i64 0] 23)).cell? ⟨w.heap.size + 1, 2, none⟩ = some (.int .i64 0) := by go_simp
  have f_r_2 : ((w.alloc (.cells #[.int .i64 b, .int .i64 d, .int .i64 n, .int .i64 e] 23)).alloc (.cells #[.int .i64 0, .int .i64 0, .int .i64 0, .int .i64 0] 23)).frozen? ⟨w.heap.size + 1, 2, none⟩ = false := by go_simp
  have c_r_3 : ((w.alloc (.cells #[.int .i64 b, .int .i64 d, .int .i64 n, .int .i64 e] 23)).alloc (.cells #[.int .i64 0, .int .i64 0, .int .i64 0, .int .i64 0] 23)).cell? ⟨w.heap.size + 1, 3, none⟩ = some (.int .i64 0) := by go_simp
  have f_r_3 : ((w.alloc (.cells #[.int .i64 b, .int .i64 d, .int .i64 n, .int .i64 e] 23)).alloc (.cells #[.int .i64 0, .int .i64 0, .int .i64 0, .int .i64 0] 23)).frozen? ⟨w.heap.size + 1, 3, none⟩ = false := by go_simp
  have hB1 := below_two hB0 hs1
  clear hB0 hs1
  generalize ((w.alloc (.cells #[.int .i64 b, .int .i64 d, .int .i64 n, .int .i64 e] 23)).alloc (.cells #[.int .i64 0, .int .i64 0, .int .i64 0, .int .i64 0] 23)) = w1 at *
  have z_p := World.block_lt_of_cell? _ _ c_p_0
  have z_r := World.block_lt_of_cell? _ _ c_r_0
  go_region_held3 (fun w' => w'.cell? ⟨w.heap.size, 0, none⟩ = some (.int .i64 b) ∧ w'.cell? ⟨w.heap.size, 1, none⟩ = some (.int .i64 d) ∧ w'.cell? ⟨w.heap.size, 2, none⟩ = some (.int .i64 n) ∧ w'.cell? ⟨w.heap.size, 3, none⟩ = some (.int .i64 e) ∧ w'.cell? ⟨w.heap.size + 1, 0, none⟩ = some (.int .i64 0) ∧ w'.frozen? ⟨w.heap.size + 1, 0, none⟩ = false ∧ w'.cell? ⟨w.heap.size + 1, 1, none⟩ = some (.int .i64 0) ∧ w'.frozen? ⟨w.heap.size + 1, 1, none⟩ = false ∧ w'.cell? ⟨w.heap.size + 1, 2, none⟩ = some (.int .i64 0) ∧ w'.frozen? ⟨w.heap.size + 1, 2, none⟩ = false ∧ w'.cell? ⟨w.heap.size + 1, 3, none⟩ = some (.int .i64 0) ∧ w'.frozen? ⟨w.heap.size + 1, 3, none⟩ = false ∧ Below w.heap.size w w')
    (((try go_split_ands); refine ⟨?_, ?_, ?_, ?_, ?_, ?_, ?_, ?_, ?_, ?_, ?_, ?_, ?_⟩ <;> first | with_reducible assumption | (with_reducible refine cell_later hq ?_; with_reducible assumption) | (with_reducible refine below_two ?_ hq; with_reducible assumption) | (with_reducible refine frozen_later (v := ?_) hq ?_ ?_; rotate_left; with_reducible assumption; with_reducible assumption) | (with_reducible refine cell_drew (alloc_cell ?_); with_reducible assumption) | (with_reducible refine frozen_drew (alloc_frozen (v := ?_) ?_ ?_); rotate_left; with_reducible assumption; with_reducible assumption) | (with_reducible refine Below.drew (alloc_below ?_); with_reducible assumption) | with_reducible exact cell_drew c_p_0 | with_reducible exact cell_drew c_p_1 | with_reducible exact cell_drew c_p_2 | with_reducible exact cell_drew c_p_3 | with_reducible exact cell_drew c_r_0 | with_reducible exact frozen_drew f_r_0 | with_reducible exact cell_drew c_r_1 | with_reducible exact frozen_drew f_r_1 | with_reducible exact cell_drew c_r_2 | with_reducible exact frozen_drew f_r_2 | with_reducible exact cell_drew c_r_3 | with_reducible exact frozen_drew f_r_3 | with_reducible exact hB1.drew))
    (first
      | (go_at_call 23; refine (pick_any _ _ _ ?_ ?_ ?_).mono ?_; (first | exact ib | exact id'); decide; decide; rintro e w2 ⟨rfl, rfl⟩; (first | rw [HX.out] | rw [HY.out])))
  all_goals
    have hs2 : Below w1.heap.size w1 (w1.alloc (.cells #[.int .i64 x, .int .i64 y, .int .i64 0, .int .i64 0] 23)).drew := ((Below.refl _ _).alloc (Nat.le_refl _) _).drew
    have n_r_0 := cell_later hs2 c_r_0
    have m_r_0 := frozen_later hs2 c_r_0 f_r_0
    have n_p_0 := cell_later hs2 c_p_0
    have n_r_1 := cell_later hs2 c_r_1
    have m_r_1 := frozen_later hs2 c_r_1 f_r_1
    have n_p_1 := cell_later hs2 c_p_1
    have n_r_2 := cell_later hs2 c_r_2
    have m_r_2 := frozen_later hs2 c_r_2 f_r_2
    have n_p_2 := cell_later hs2 c_p_2
    have n_r_3 := cell_later hs2 c_r_3
    have m_r_3 := frozen_later hs2 c_r_3 f_r_3
    have n_p_3 := cell_later hs2 c_p_3
    have n_q_0 : (w1.alloc (.cells #[.int .i64 x, .int .i64 y, .int .i64 0, .int .i64 0] 23)).drew.cell? ⟨w1.heap.size, 0, none⟩ = some (.int .i64 x) := by go_simp
    have m_q_0 : (w1.alloc (.cells #[.int .i64 x, .int .i64 y, .int .i64 0, .int .i64 0] 23)).drew.frozen? ⟨w1.heap.size, 0, none⟩ = false := by go_simp
    have n_q_1 : (w1.alloc (.cells #[.int .i64 x, .int .i64 y, .int .i64 0, .int .i64 0] 23)).drew.cell? ⟨w1.heap.size, 1, none⟩ = some (.int .i64 y) := by go_simp
    have m_q_1 : (w1.alloc (.cells #[.int .i64 x, .int .i64 y, .int .i64 0, .int .i64 0] 23)).drew.frozen? ⟨w1.heap.size, 1, none⟩ = false := by go_simp
    have n_q_2 : (w1.alloc (.cells #[.int .i64 x, .int .i64 y, .int .i64 0, .int .i64 0] 23)).drew.cell? ⟨w1.heap.size, 2, none⟩ = some (.int .i64 0) := by go_simp
    have m_q_2 : (w1.alloc (.cells #[.int .i64 x, .int .i64 y, .int .i64 0, .int .i64 0] 23)).drew.frozen? ⟨w1.heap.size, 2, none⟩ = false := by go_simp
    have n_q_3 : (w1.alloc (.cells #[.int .i64 x, .int .i64 y, .int .i64 0, .int .i64 0] 23)).drew.cell? ⟨w1.heap.size, 3, none⟩ = some (.int .i64 0) := by go_simp
    have m_q_3 : (w1.alloc (.cells #[.int .i64 x, .int .i64 y, .int .i64 0, .int .i64 0] 23)).drew.frozen? ⟨w1.heap.size, 3, none⟩ = false := by go_simp
    have hB2 := below_two hB1 hs2
    have y_r := World.block_lt_of_cell? _ _ c_r_0
    clear c_p_0 c_p_1 c_p_2 c_p_3 c_r_0 c_r_1 c_r_2 c_r_3 f_r_0 f_r_1 f_r_2 f_r_3 z_p z_r hB1 hs2
    generalize (w1.alloc (.cells #[.int .i64 x, .int .i64 y, .int .i64 0, .int .i64 0] 23)).drew = w2 at *
    simp only at y_r
    go_wp2_with fail
    refine (pick_any n 4 _ in' (by decide) (by decide)).mono ?_
    rintro ed wx ⟨rfl, rfl⟩
    rw [HR.out]
    obtain ⟨e0, e1, e2, e3⟩ := put4_of (x := .int .i64 x) (y := .int .i64 y) (z := .int .i64 0) (u := .int .i64 0) n_r_0 n_r_1 n_r_2 n_r_3
    go_wp2
    exact bodyPost_ret (v := vl x y 0 0) (by simp [results, Tryz.results14, go_sem, e0, e1, e2, e3]) rfl ⟨rfl, put4_below hB2 (by omega)⟩

set_option maxRecDepth 100000 in
set_option maxHeartbeats 4000000 in
theorem value_yes (b d n e : Int) (w : World) (ib : Rat.I64 b) (id' : Rat.I64 d) (in' : Rat.I64 n) (x y r : Int) (HX : Hid (pickS b 7 = x)) (HY : Hid (pickS d 3 = y)) (HR : Hid (pickS n 4 = r)) (ie : Rat.I64 e) (p q N E : Int) (hr : 0 < r) (HP : Hid (pickS n 14 = p)) (HQ : Hid (pickS e 15 = q)) (hN : IntKind.i64.wrap (2 + p) = N) (hE : IntKind.i64.wrap (1 + q) = E) (hne : (N == E) = false) :
    Calls Tryz.prog 14 #[vl b d n e] w fun ed w' => ed = .returned (vl x y N E) ∧ Below w.heap.size w w' := by
  have hB0 : Below w.heap.size w w := Below.refl _ _
  go_enter Tryz.func14, Tryz.ntmps14
  go_wp2_with fail
  have hs1 : Below w.heap.size w ((w.alloc (.cells #[.int .i64 b, .int .i64 d, .int .i64 n, .int .i64 e] 23)).alloc (.cells #[.int .i64 0, .int .i64 0, .int .i64 0, .int .i64 0] 23)) := by repeat (first | exact Below.refl _ _ | refine Below.alloc ?_ (by simp <;> omega) _)
  have c_p_0 : ((w.alloc (.cells #[.int .i64 b, .int .i64 d, .int .i64 n, .int .i64 e] 23)).alloc (.cells #[.int .i64 0, .int .i64 0, .int .i64 0, .int .i64 0] 23)).cell? ⟨w.heap.size, 0, none⟩ = some (.int .i64 b) := by go_simp
  have c_p_1 : ((w.alloc (.cells #[.int .i64 b, .int .i64 d, .int .i64 n, .int .i64 e] 23)).alloc (.cells #[.int .i64 0, .int .i64 0, .int .i64 0, .int .i64 0] 23)).cell? ⟨w.heap.size, 1, none⟩ = some (.int .i64 d) := by go_simp
  have c_p_2 : ((w.alloc (.cells #[.int .i64 b, .int .i64 d, .int .i64 n, .int .i64 e] 23)).alloc (.cells #[.int .i64 0, .int .i64 0, .int .i64 0, .int .i64 0] 23)).cell? ⟨w.heap.size, 2, none⟩ = some (.int .i64 n) := by go_simp
  have c_p_3 : ((w.alloc (.cells #[.int .i64 b, .int .i64 d, .int .i64 n, .int .i64 e] 23)).alloc (.cells #[.int .i64 0, .int .i64 0, .int .i64 0, .int .i64 0] 23)).cell? ⟨w.heap.size, 3, none⟩ = some (.int .i64 e) := by go_simp
  have c_r_0 : ((w.alloc (.cells #[.int .i64 b, .int .i64 d, .int .i64 n, .int .i64 e] 23)).alloc (.cells #[.int .i64 0, .int .i64 0, .int .i64 0, .int .i64 0] 23)).cell? ⟨w.heap.size + 1, 0, none⟩ = some (.int .i64 0) := by go_simp
  have f_r_0 : ((w.alloc (.cells #[.int .i64 b, .int .i64 d, .int .i64 n, .int .i64 e] 23)).alloc (.cells #[.int .i64 0, .int .i64 0, .int .i64 0, .int .i64 0] 23)).frozen? ⟨w.heap.size + 1, 0, none⟩ = false := by go_simp
  have c_r_1 : ((w.alloc (.cells #[.int .i64 b, .int .i64 d, .int .i64 n, .int .i64 e] 23)).alloc (.cells #[.int .i64 0, .int .i64 0, .int .i64 0, .int .i64 0] 23)).cell? ⟨w.heap.size + 1, 1, none⟩ = some (.int .i64 0) := by go_simp
  have f_r_1 : ((w.alloc (.cells #[.int .i64 b, .int .i64 d, .int .i64 n, .int .i64 e] 23)).alloc (.cells #[.int .i64 0, .int .i64 0, .int .i64 0, .int .i64 0] 23)).frozen? ⟨w.heap.size + 1, 1, none⟩ = false := by go_simp
  have c_r_2 : ((w.alloc (.cells #[.int .i64 b, .int .i64 d, .int .i64 n, .int .i64 e] 23)).alloc (.cells #[.int .i64 0, .int .i64 0, .int .i64 0, .int .i64 0] 23)).cell? ⟨w.heap.size + 1, 2, none⟩ = some (.int .i64 0) := by go_simp
  have f_r_2 : ((w.alloc (.cells #[.int .i64 b, .int .i64 d, .int .i64 n, .int .i64 e] 23)).alloc (.cells #[.int .i64 0, .int .i64 0, .int .i64 0, .int .i64 0] 23)).frozen? ⟨w.heap.size + 1, 2, none⟩ = false := by go_simp
  have c_r_3 : ((w.alloc (.cells #[.int .i64 b, .int .i64 d, .int .i64 n, .int .i64 e] 23)).alloc (.cells #[.int .i64 0, .int .i64 0, .int .i64 0, .int .i64 0] 23)).cell? ⟨w.heap.size + 1, 3, none⟩ = some (.int .i64 0) := by go_simp
  have f_r_3 : ((w.alloc (.cells #[.int .i64 b, .int .i64 d, .int .i64 n, .int .i64 e] 23)).alloc (.cells #[.int .i64 0, .int .i64 0, .int .i64 0, .int .i64 0] 23)).frozen? ⟨w.heap.size + 1, 3, none⟩ = false := by go_simp
  have hB1 := below_two hB0 hs1
  clear hB0 hs1
  generalize ((w.alloc (.cells #[.int .i64 b, .int .i64 d, .int .i64 n, .int .i64 e] 23)).alloc (.cells #[.int .i64 0, .int .i64 0, .int .i64 0, .int .i64 0] 23)) = w1 at *
  have z_p := World.block_lt_of_cell? _ _ c_p_0
  have z_r := World.block_lt_of_cell? _ _ c_r_0
  go_region_held3 (fun w' => w'.cell? ⟨w.heap.size, 0, none⟩ = some (.int .i64 b) ∧ w'.cell? ⟨w.heap.size, 1, none⟩ = some (.int .i64 d) ∧ w'.cell? ⟨w.heap.size, 2, none⟩ = some (.int .i64 n) ∧ w'.cell? ⟨w.heap.size, 3, none⟩ = some (.int .i64 e) ∧ w'.cell? ⟨w.heap.size + 1, 0, none⟩ = some (.int .i64 0) ∧ w'.frozen? ⟨w.heap.size + 1, 0, none⟩ = false ∧ w'.cell? ⟨w.heap.size + 1, 1, none⟩ = some (.int .i64 0) ∧ w'.frozen? ⟨w.heap.size + 1, 1, none⟩ = false ∧ w'.cell? ⟨w.heap.size + 1, 2, none⟩ = some (.int .i64 0) ∧ w'.frozen? ⟨w.heap.size + 1, 2, none⟩ = false ∧ w'.cell? ⟨w.heap.size + 1, 3, none⟩ = some (.int .i64 0) ∧ w'.frozen? ⟨w.heap.size + 1, 3, none⟩ = false ∧ Below w.heap.size w w')
    (((try go_split_ands); refine ⟨?_, ?_, ?_, ?_, ?_, ?_, ?_, ?_, ?_, ?_, ?_, ?_, ?_⟩ <;> first | with_reducible assumption | (with_reducible refine cell_later hq ?_; with_reducible assumption) | (with_reducible refine below_two ?_ hq; with_reducible assumption) | (with_reducible refine frozen_later (v := ?_) hq ?_ ?_; rotate_left; with_reducible assumption; with_reducible assumption) | (with_reducible refine cell_drew (alloc_cell ?_); with_reducible assumption) | (with_reducible refine frozen_drew (alloc_frozen (v := ?_) ?_ ?_); rotate_left; with_reducible assumption; with_reducible assumption) | (with_reducible refine Below.drew (alloc_below ?_); with_reducible assumption) | with_reducible exact cell_drew c_p_0 | with_reducible exact cell_drew c_p_1 | with_reducible exact cell_drew c_p_2 | with_reducible exact cell_drew c_p_3 | with_reducible exact cell_drew c_r_0 | with_reducible exact frozen_drew f_r_0 | with_reducible exact cell_drew c_r_1 | with_reducible exact frozen_drew f_r_1 | with_reducible exact cell_drew c_r_2 | with_reducible exact frozen_drew f_r_2 | with_reducible exact cell_drew c_r_3 | with_reducible exact frozen_drew f_r_3 | with_reducible exact hB1.drew))
    (first
      | (go_at_call 23; refine (pick_any _ _ _ ?_ ?_ ?_).mono ?_; (first | exact ib | exact id'); decide; decide; rintro e w2 ⟨rfl, rfl⟩; (first | rw [HX.out] | rw [HY.out])))
  all_goals
    have hs2 : Below w1.heap.size w1 (w1.alloc (.cells #[.int .i64 x, .int .i64 y, .int .i64 0, .int .i64 0] 23)).drew := ((Below.refl _ _).alloc (Nat.le_refl _) _).drew
    have n_r_0 := cell_later hs2 c_r_0
    have m_r_0 := frozen_later hs2 c_r_0 f_r_0
    have n_p_0 := cell_later hs2 c_p_0
    have n_r_1 := cell_later hs2 c_r_1
    have m_r_1 := frozen_later hs2 c_r_1 f_r_1
    have n_p_1 := cell_later hs2 c_p_1
    have n_r_2 := cell_later hs2 c_r_2
    have m_r_2 := frozen_later hs2 c_r_2 f_r_2
    have n_p_2 := cell_later hs2 c_p_2
    have n_r_3 := cell_later hs2 c_r_3
    have m_r_3 := frozen_later hs2 c_r_3 f_r_3
    have n_p_3 := cell_later hs2 c_p_3
    have n_q_0 : (w1.alloc (.cells #[.int .i64 x, .int .i64 y, .int .i64 0, .int .i64 0] 23)).drew.cell? ⟨w1.heap.size, 0, none⟩ = some (.int .i64 x) := by go_simp
    have m_q_0 : (w1.alloc (.cells #[.int .i64 x, .int .i64 y, .int .i64 0, .int .i64 0] 23)).drew.frozen? ⟨w1.heap.size, 0, none⟩ = false := by go_simp
    have n_q_1 : (w1.alloc (.cells #[.int .i64 x, .int .i64 y, .int .i64 0, .int .i64 0] 23)).drew.cell? ⟨w1.heap.size, 1, none⟩ = some (.int .i64 y) := by go_simp
    have m_q_1 : (w1.alloc (.cells #[.int .i64 x, .int .i64 y, .int .i64 0, .int .i64 0] 23)).drew.frozen? ⟨w1.heap.size, 1, none⟩ = false := by go_simp
    have n_q_2 : (w1.alloc (.cells #[.int .i64 x, .int .i64 y, .int .i64 0, .int .i64 0] 23)).drew.cell? ⟨w1.heap.size, 2, none⟩ = some (.int .i64 0) := by go_simp
    have m_q_2 : (w1.alloc (.cells #[.int .i64 x, .int .i64 y, .int .i64 0, .int .i64 0] 23)).drew.frozen? ⟨w1.heap.size, 2, none⟩ = false := by go_simp
    have n_q_3 : (w1.alloc (.cells #[.int .i64 x, .int .i64 y, .int .i64 0, .int .i64 0] 23)).drew.cell? ⟨w1.heap.size, 3, none⟩ = some (.int .i64 0) := by go_simp
    have m_q_3 : (w1.alloc (.cells #[.int .i64 x, .int .i64 y, .int .i64 0, .int .i64 0] 23)).drew.frozen? ⟨w1.heap.size, 3, none⟩ = false := by go_simp
    have hB2 := below_two hB1 hs2
    have y_r := World.block_lt_of_cell? _ _ c_r_0
    clear c_p_0 c_p_1 c_p_2 c_p_3 c_r_0 c_r_1 c_r_2 c_r_3 f_r_0 f_r_1 f_r_2 f_r_3 z_p z_r hB1 hs2
    generalize (w1.alloc (.cells #[.int .i64 x, .int .i64 y, .int .i64 0, .int .i64 0] 23)).drew = w2 at *
    simp only at y_r
    go_wp2_with fail
    refine (pick_any n 4 _ in' (by decide) (by decide)).mono ?_
    rintro ed wx ⟨rfl, rfl⟩
    rw [HR.out]
    go_wp2_with fail
    refine (pick_any n 14 _ in' (by decide) (by decide)).mono ?_
    rintro ed wx ⟨rfl, rfl⟩
    rw [HP.out]
    go_wp2_with fail
    have a_q_0 : (w2.setCell ⟨w1.heap.size, 2, none⟩ (.int .i64 N)).cell? ⟨w1.heap.size, 0, none⟩ = some (.int .i64 x) := set_beside (by decide) n_q_0
    have b_q_0 : (w2.setCell ⟨w1.heap.size, 2, none⟩ (.int .i64 N)).frozen? ⟨w1.heap.size, 0, none⟩ = false := set_frozen m_q_0
    have a_r_0 : (w2.setCell ⟨w1.heap.size, 2, none⟩ (.int .i64 N)).cell? ⟨w.heap.size + 1, 0, none⟩ = some (.int .i64 0) := set_far (by omega) n_r_0
    have b_r_0 : (w2.setCell ⟨w1.heap.size, 2, none⟩ (.int .i64 N)).frozen? ⟨w.heap.size + 1, 0, none⟩ = false := set_frozen m_r_0
    have a_p_0 := set_far (B := w1.heap.size) (o := 2) (x := .int .i64 N) (by omega) n_p_0
    have a_q_1 : (w2.setCell ⟨w1.heap.size, 2, none⟩ (.int .i64 N)).cell? ⟨w1.heap.size, 1, none⟩ = some (.int .i64 y) := set_beside (by decide) n_q_1
    have b_q_1 : (w2.setCell ⟨w1.heap.size, 2, none⟩ (.int .i64 N)).frozen? ⟨w1.heap.size, 1, none⟩ = false := set_frozen m_q_1
    have a_r_1 : (w2.setCell ⟨w1.heap.size, 2, none⟩ (.int .i64 N)).cell? ⟨w.heap.size + 1, 1, none⟩ = some (.int .i64 0) := set_far (by omega) n_r_1
    have b_r_1 : (w2.setCell ⟨w1.heap.size, 2, none⟩ (.int .i64 N)).frozen? ⟨w.heap.size + 1, 1, none⟩ = false := set_frozen m_r_1
    have a_p_1 := set_far (B := w1.heap.size) (o := 2) (x := .int .i64 N) (by omega) n_p_1
    have a_q_2 : (w2.setCell ⟨w1.heap.size, 2, none⟩ (.int .i64 N)).cell? ⟨w1.heap.size, 2, none⟩ = some (.int .i64 N) := set_same (held_of n_q_2)
    have b_q_2 : (w2.setCell ⟨w1.heap.size, 2, none⟩ (.int .i64 N)).frozen? ⟨w1.heap.size, 2, none⟩ = false := set_frozen m_q_2
    have a_r_2 : (w2.setCell ⟨w1.heap.size, 2, none⟩ (.int .i64 N)).cell? ⟨w.heap.size + 1, 2, none⟩ = some (.int .i64 0) := set_far (by omega) n_r_2
    have b_r_2 : (w2.setCell ⟨w1.heap.size, 2, none⟩ (.int .i64 N)).frozen? ⟨w.heap.size + 1, 2, none⟩ = false := set_frozen m_r_2
    have a_p_2 := set_far (B := w1.heap.size) (o := 2) (x := .int .i64 N) (by omega) n_p_2
    have a_q_3 : (w2.setCell ⟨w1.heap.size, 2, none⟩ (.int .i64 N)).cell? ⟨w1.heap.size, 3, none⟩ = some (.int .i64 0) := set_beside (by decide) n_q_3
    have b_q_3 : (w2.setCell ⟨w1.heap.size, 2, none⟩ (.int .i64 N)).frozen? ⟨w1.heap.size, 3, none⟩ = false := set_frozen m_q_3
    have a_r_3 : (w2.setCell ⟨w1.heap.size, 2, none⟩ (.int .i64 N)).cell? ⟨w.heap.size + 1, 3, none⟩ = some (.int .i64 0) := set_far (by omega) n_r_3
    have b_r_3 : (w2.setCell ⟨w1.heap.size, 2, none⟩ (.int .i64 N)).frozen? ⟨w.heap.size + 1, 3, none⟩ = false := set_frozen m_r_3
    have a_p_3 := set_far (B := w1.heap.size) (o := 2) (x := .int .i64 N) (by omega) n_p_3
    have hB3 : Below w.heap.size w (w2.setCell ⟨w1.heap.size, 2, none⟩ (.int .i64 N)) := set1_below hB2 (by omega)
    clear hB2
    clear n_q_0 m_q_0 n_r_0 m_r_0 n_p_0 n_q_1 m_q_1 n_r_1 m_r_1 n_p_1 n_q_2 m_q_2 n_r_2 m_r_2 n_p_2 n_q_3 m_q_3 n_r_3 m_r_3 n_p_3
    generalize w2.setCell ⟨w1.heap.size, 2, none⟩ (.int .i64 N) = w3 at *
    have n_q_0 := a_q_0
    have m_q_0 := b_q_0
    have n_r_0 := a_r_0
    have m_r_0 := b_r_0
    have n_p_0 := a_p_0
    clear a_q_0 b_q_0 a_r_0 b_r_0 a_p_0
    have n_q_1 := a_q_1
    have m_q_1 := b_q_1
    have n_r_1 := a_r_1
    have m_r_1 := b_r_1
    have n_p_1 := a_p_1
    clear a_q_1 b_q_1 a_r_1 b_r_1 a_p_1
    have n_q_2 := a_q_2
    have m_q_2 := b_q_2
    have n_r_2 := a_r_2
    have m_r_2 := b_r_2
    have n_p_2 := a_p_2
    clear a_q_2 b_q_2 a_r_2 b_r_2 a_p_2
    have n_q_3 := a_q_3
    have m_q_3 := b_q_3
    have n_r_3 := a_r_3
    have m_r_3 := b_r_3
    have n_p_3 := a_p_3
    clear a_q_3 b_q_3 a_r_3 b_r_3 a_p_3
    refine (pick_any e 15 _ ie (by decide) (by decide)).mono ?_
    rintro ed wx ⟨rfl, rfl⟩
    rw [HQ.out]
    have a_q_0 : (w3.setCell ⟨w1.heap.size, 3, none⟩ (.int .i64 E)).cell? ⟨w1.heap.size, 0, none⟩ = some (.int .i64 x) := set_beside (by decide) n_q_0
    have b_q_0 : (w3.setCell ⟨w1.heap.size, 3, none⟩ (.int .i64 E)).frozen? ⟨w1.heap.size, 0, none⟩ = false := set_frozen m_q_0
    have a_r_0 : (w3.setCell ⟨w1.heap.size, 3, none⟩ (.int .i64 E)).cell? ⟨w.heap.size + 1, 0, none⟩ = some (.int .i64 0) := set_far (by omega) n_r_0
    have b_r_0 : (w3.setCell ⟨w1.heap.size, 3, none⟩ (.int .i64 E)).frozen? ⟨w.heap.size + 1, 0, none⟩ = false := set_frozen m_r_0
    have a_p_0 := set_far (B := w1.heap.size) (o := 3) (x := .int .i64 E) (by omega) n_p_0
    have a_q_1 : (w3.setCell ⟨w1.heap.size, 3, none⟩ (.int .i64 E)).cell? ⟨w1.heap.size, 1, none⟩ = some (.int .i64 y) := set_beside (by decide) n_q_1
    have b_q_1 : (w3.setCell ⟨w1.heap.size, 3, none⟩ (.int .i64 E)).frozen? ⟨w1.heap.size, 1, none⟩ = false := set_frozen m_q_1
    have a_r_1 : (w3.setCell ⟨w1.heap.size, 3, none⟩ (.int .i64 E)).cell? ⟨w.heap.size + 1, 1, none⟩ = some (.int .i64 0) := set_far (by omega) n_r_1
    have b_r_1 : (w3.setCell ⟨w1.heap.size, 3, none⟩ (.int .i64 E)).frozen? ⟨w.heap.size + 1, 1, none⟩ = false := set_frozen m_r_1
    have a_p_1 := set_far (B := w1.heap.size) (o := 3) (x := .int .i64 E) (by omega) n_p_1
    have a_q_2 : (w3.setCell ⟨w1.heap.size, 3, none⟩ (.int .i64 E)).cell? ⟨w1.heap.size, 2, none⟩ = some (.int .i64 N) := set_beside (by decide) n_q_2
    have b_q_2 : (w3.setCell ⟨w1.heap.size, 3, none⟩ (.int .i64 E)).frozen? ⟨w1.heap.size, 2, none⟩ = false := set_frozen m_q_2
    have a_r_2 : (w3.setCell ⟨w1.heap.size, 3, none⟩ (.int .i64 E)).cell? ⟨w.heap.size + 1, 2, none⟩ = some (.int .i64 0) := set_far (by omega) n_r_2
    have b_r_2 : (w3.setCell ⟨w1.heap.size, 3, none⟩ (.int .i64 E)).frozen? ⟨w.heap.size + 1, 2, none⟩ = false := set_frozen m_r_2
    have a_p_2 := set_far (B := w1.heap.size) (o := 3) (x := .int .i64 E) (by omega) n_p_2
    have a_q_3 : (w3.setCell ⟨w1.heap.size, 3, none⟩ (.int .i64 E)).cell? ⟨w1.heap.size, 3, none⟩ = some (.int .i64 E) := set_same (held_of n_q_3)
    have b_q_3 : (w3.setCell ⟨w1.heap.size, 3, none⟩ (.int .i64 E)).frozen? ⟨w1.heap.size, 3, none⟩ = false := set_frozen m_q_3
    have a_r_3 : (w3.setCell ⟨w1.heap.size, 3, none⟩ (.int .i64 E)).cell? ⟨w.heap.size + 1, 3, none⟩ = some (.int .i64 0) := set_far (by omega) n_r_3
    have b_r_3 : (w3.setCell ⟨w1.heap.size, 3, none⟩ (.int .i64 E)).frozen? ⟨w.heap.size + 1, 3, none⟩ = false := set_frozen m_r_3
    have a_p_3 := set_far (B := w1.heap.size) (o := 3) (x := .int .i64 E) (by omega) n_p_3
    obtain ⟨e0, e1, e2, e3⟩ := put4_of (x := .int .i64 x) (y := .int .i64 y) (z := .int .i64 N) (u := .int .i64 E) a_r_0 a_r_1 a_r_2 a_r_3
    go_wp2
    exact bodyPost_ret (v := vl x y N E) (by simp [results, Tryz.results14, go_sem, e0, e1, e2, e3]) rfl ⟨rfl, put4_below (set1_below hB3 (by omega)) (by omega)⟩

set_option maxRecDepth 100000 in
set_option maxHeartbeats 4000000 in
theorem value_eq (b d n e : Int) (w : World) (ib : Rat.I64 b) (id' : Rat.I64 d) (in' : Rat.I64 n) (x y r : Int) (HX : Hid (pickS b 7 = x)) (HY : Hid (pickS d 3 = y)) (HR : Hid (pickS n 4 = r)) (ie : Rat.I64 e) (p q N L : Int) (hr : 0 < r) (HP : Hid (pickS n 14 = p)) (HQ : Hid (pickS e 15 = q)) (hN : IntKind.i64.wrap (2 + p) = N) (hE : IntKind.i64.wrap (1 + q) = N) (hL : IntKind.i64.wrap (N - 1) = L) :
    Calls Tryz.prog 14 #[vl b d n e] w fun ed w' => ed = .returned (vl x y N L) ∧ Below w.heap.size w w' := by
  have hB0 : Below w.heap.size w w := Below.refl _ _
  go_enter Tryz.func14, Tryz.ntmps14
  go_wp2_with fail
  have hs1 : Below w.heap.size w ((w.alloc (.cells #[.int .i64 b, .int .i64 d, .int .i64 n, .int .i64 e] 23)).alloc (.cells #[.int .i64 0, .int .i64 0, .int .i64 0, .int .i64 0] 23)) := by repeat (first | exact Below.refl _ _ | refine Below.alloc ?_ (by simp <;> omega) _)
  have c_p_0 : ((w.alloc (.cells #[.int .i64 b, .int .i64 d, .int .i64 n, .int .i64 e] 23)).alloc (.cells #[.int .i64 0, .int .i64 0, .int .i64 0, .int .i64 0] 23)).cell? ⟨w.heap.size, 0, none⟩ = some (.int .i64 b) := by go_simp
  have c_p_1 : ((w.alloc (.cells #[.int .i64 b, .int .i64 d, .int .i64 n, .int .i64 e] 23)).alloc (.cells #[.int .i64 0, .int .i64 0, .int .i64 0, .int .i64 0] 23)).cell? ⟨w.heap.size, 1, none⟩ = some (.int .i64 d) := by go_simp
  have c_p_2 : ((w.alloc (.cells #[.int .i64 b, .int .i64 d, .int .i64 n, .int .i64 e] 23)).alloc (.cells #[.int .i64 0, .int .i64 0, .int .i64 0, .int .i64 0] 23)).cell? ⟨w.heap.size, 2, none⟩ = some (.int .i64 n) := by go_simp
  have c_p_3 : ((w.alloc (.cells #[.int .i64 b, .int .i64 d, .int .i64 n, .int .i64 e] 23)).alloc (.cells #[.int .i64 0, .int .i64 0, .int .i64 0, .int .i64 0] 23)).cell? ⟨w.heap.size, 3, none⟩ = some (.int .i64 e) := by go_simp
  have c_r_0 : ((w.alloc (.cells #[.int .i64 b, .int .i64 d, .int .i64 n, .int .i64 e] 23)).alloc (.cells #[.int .i64 0, .int .i64 0, .int .i64 0, .int .i64 0] 23)).cell? ⟨w.heap.size + 1, 0, none⟩ = some (.int .i64 0) := by go_simp
  have f_r_0 : ((w.alloc (.cells #[.int .i64 b, .int .i64 d, .int .i64 n, .int .i64 e] 23)).alloc (.cells #[.int .i64 0, .int .i64 0, .int .i64 0, .int .i64 0] 23)).frozen? ⟨w.heap.size + 1, 0, none⟩ = false := by go_simp
  have c_r_1 : ((w.alloc (.cells #[.int .i64 b, .int .i64 d, .int .i64 n, .int .i64 e] 23)).alloc (.cells #[.int .i64 0, .int .i64 0, .int .i64 0, .int .i64 0] 23)).cell? ⟨w.heap.size + 1, 1, none⟩ = some (.int .i64 0) := by go_simp
  have f_r_1 : ((w.alloc (.cells #[.int .i64 b, .int .i64 d, .int .i64 n, .int .i64 e] 23)).alloc (.cells #[.int .i64 0, .int .i64 0, .int .i64 0, .int .i64 0] 23)).frozen? ⟨w.heap.size + 1, 1, none⟩ = false := by go_simp
  have c_r_2 : ((w.alloc (.cells #[.int .i64 b, .int .i64 d, .int .i64 n, .int .i64 e] 23)).alloc (.cells #[.int .i64 0, .int .i64 0, .int .i64 0, .int .i64 0] 23)).cell? ⟨w.heap.size + 1, 2, none⟩ = some (.int .i64 0) := by go_simp
  have f_r_2 : ((w.alloc (.cells #[.int .i64 b, .int .i64 d, .int .i64 n, .int .i64 e] 23)).alloc (.cells #[.int .i64 0, .int .i64 0, .int .i64 0, .int .i64 0] 23)).frozen? ⟨w.heap.size + 1, 2, none⟩ = false := by go_simp
  have c_r_3 : ((w.alloc (.cells #[.int .i64 b, .int .i64 d, .int .i64 n, .int .i64 e] 23)).alloc (.cells #[.int .i64 0, .int .i64 0, .int .i64 0, .int .i64 0] 23)).cell? ⟨w.heap.size + 1, 3, none⟩ = some (.int .i64 0) := by go_simp
  have f_r_3 : ((w.alloc (.cells #[.int .i64 b, .int .i64 d, .int .i64 n, .int .i64 e] 23)).alloc (.cells #[.int .i64 0, .int .i64 0, .int .i64 0, .int .i64 0] 23)).frozen? ⟨w.heap.size + 1, 3, none⟩ = false := by go_simp
  have hB1 := below_two hB0 hs1
  clear hB0 hs1
  generalize ((w.alloc (.cells #[.int .i64 b, .int .i64 d, .int .i64 n, .int .i64 e] 23)).alloc (.cells #[.int .i64 0, .int .i64 0, .int .i64 0, .int .i64 0] 23)) = w1 at *
  have z_p := World.block_lt_of_cell? _ _ c_p_0
  have z_r := World.block_lt_of_cell? _ _ c_r_0
  go_region_held3 (fun w' => w'.cell? ⟨w.heap.size, 0, none⟩ = some (.int .i64 b) ∧ w'.cell? ⟨w.heap.size, 1, none⟩ = some (.int .i64 d) ∧ w'.cell? ⟨w.heap.size, 2, none⟩ = some (.int .i64 n) ∧ w'.cell? ⟨w.heap.size, 3, none⟩ = some (.int .i64 e) ∧ w'.cell? ⟨w.heap.size + 1, 0, none⟩ = some (.int .i64 0) ∧ w'.frozen? ⟨w.heap.size + 1, 0, none⟩ = false ∧ w'.cell? ⟨w.heap.size + 1, 1, none⟩ = some (.int .i64 0) ∧ w'.frozen? ⟨w.heap.size + 1, 1, none⟩ = false ∧ w'.cell? ⟨w.heap.size + 1, 2, none⟩ = some (.int .i64 0) ∧ w'.frozen? ⟨w.heap.size + 1, 2, none⟩ = false ∧ w'.cell? ⟨w.heap.size + 1, 3, none⟩ = some (.int .i64 0) ∧ w'.frozen? ⟨w.heap.size + 1, 3, none⟩ = false ∧ Below w.heap.size w w')
    (((try go_split_ands); refine ⟨?_, ?_, ?_, ?_, ?_, ?_, ?_, ?_, ?_, ?_, ?_, ?_, ?_⟩ <;> first | with_reducible assumption | (with_reducible refine cell_later hq ?_; with_reducible assumption) | (with_reducible refine below_two ?_ hq; with_reducible assumption) | (with_reducible refine frozen_later (v := ?_) hq ?_ ?_; rotate_left; with_reducible assumption; with_reducible assumption) | (with_reducible refine cell_drew (alloc_cell ?_); with_reducible assumption) | (with_reducible refine frozen_drew (alloc_frozen (v := ?_) ?_ ?_); rotate_left; with_reducible assumption; with_reducible assumption) | (with_reducible refine Below.drew (alloc_below ?_); with_reducible assumption) | with_reducible exact cell_drew c_p_0 | with_reducible exact cell_drew c_p_1 | with_reducible exact cell_drew c_p_2 | with_reducible exact cell_drew c_p_3 | with_reducible exact cell_drew c_r_0 | with_reducible exact frozen_drew f_r_0 | with_reducible exact cell_drew c_r_1 | with_reducible exact frozen_drew f_r_1 | with_reducible exact cell_drew c_r_2 | with_reducible exact frozen_drew f_r_2 | with_reducible exact cell_drew c_r_3 | with_reducible exact frozen_drew f_r_3 | with_reducible exact hB1.drew))
    (first
      | (go_at_call 23; refine (pick_any _ _ _ ?_ ?_ ?_).mono ?_; (first | exact ib | exact id'); decide; decide; rintro e w2 ⟨rfl, rfl⟩; (first | rw [HX.out] | rw [HY.out])))
  all_goals
    have hs2 : Below w1.heap.size w1 (w1.alloc (.cells #[.int .i64 x, .int .i64 y, .int .i64 0, .int .i64 0] 23)).drew := ((Below.refl _ _).alloc (Nat.le_refl _) _).drew
    have n_r_0 := cell_later hs2 c_r_0
    have m_r_0 := frozen_later hs2 c_r_0 f_r_0
    have n_p_0 := cell_later hs2 c_p_0
    have n_r_1 := cell_later hs2 c_r_1
    have m_r_1 := frozen_later hs2 c_r_1 f_r_1
    have n_p_1 := cell_later hs2 c_p_1
    have n_r_2 := cell_later hs2 c_r_2
    have m_r_2 := frozen_later hs2 c_r_2 f_r_2
    have n_p_2 := cell_later hs2 c_p_2
    have n_r_3 := cell_later hs2 c_r_3
    have m_r_3 := frozen_later hs2 c_r_3 f_r_3
    have n_p_3 := cell_later hs2 c_p_3
    have n_q_0 : (w1.alloc (.cells #[.int .i64 x, .int .i64 y, .int .i64 0, .int .i64 0] 23)).drew.cell? ⟨w1.heap.size, 0, none⟩ = some (.int .i64 x) := by go_simp
    have m_q_0 : (w1.alloc (.cells #[.int .i64 x, .int .i64 y, .int .i64 0, .int .i64 0] 23)).drew.frozen? ⟨w1.heap.size, 0, none⟩ = false := by go_simp
    have n_q_1 : (w1.alloc (.cells #[.int .i64 x, .int .i64 y, .int .i64 0, .int .i64 0] 23)).drew.cell? ⟨w1.heap.size, 1, none⟩ = some (.int .i64 y) := by go_simp
    have m_q_1 : (w1.alloc (.cells #[.int .i64 x, .int .i64 y, .int .i64 0, .int .i64 0] 23)).drew.frozen? ⟨w1.heap.size, 1, none⟩ = false := by go_simp
    have n_q_2 : (w1.alloc (.cells #[.int .i64 x, .int .i64 y, .int .i64 0, .int .i64 0] 23)).drew.cell? ⟨w1.heap.size, 2, none⟩ = some (.int .i64 0) := by go_simp
    have m_q_2 : (w1.alloc (.cells #[.int .i64 x, .int .i64 y, .int .i64 0, .int .i64 0] 23)).drew.frozen? ⟨w1.heap.size, 2, none⟩ = false := by go_simp
    have n_q_3 : (w1.alloc (.cells #[.int .i64 x, .int .i64 y, .int .i64 0, .int .i64 0] 23)).drew.cell? ⟨w1.heap.size, 3, none⟩ = some (.int .i64 0) := by go_simp
    have m_q_3 : (w1.alloc (.cells #[.int .i64 x, .int .i64 y, .int .i64 0, .int .i64 0] 23)).drew.frozen? ⟨w1.heap.size, 3, none⟩ = false := by go_simp
    have hB2 := below_two hB1 hs2
    have y_r := World.block_lt_of_cell? _ _ c_r_0
    clear c_p_0 c_p_1 c_p_2 c_p_3 c_r_0 c_r_1 c_r_2 c_r_3 f_r_0 f_r_1 f_r_2 f_r_3 z_p z_r hB1 hs2
    generalize (w1.alloc (.cells #[.int .i64 x, .int .i64 y, .int .i64 0, .int .i64 0] 23)).drew = w2 at *
    simp only at y_r
    go_wp2_with fail
    refine (pick_any n 4 _ in' (by decide) (by decide)).mono ?_
    rintro ed wx ⟨rfl, rfl⟩
    rw [HR.out]
    go_wp2_with fail
    refine (pick_any n 14 _ in' (by decide) (by decide)).mono ?_
    rintro ed wx ⟨rfl, rfl⟩
    rw [HP.out]
    go_wp2_with fail
    have a_q_0 : (w2.setCell ⟨w1.heap.size, 2, none⟩ (.int .i64 N)).cell? ⟨w1.heap.size, 0, none⟩ = some (.int .i64 x) := set_beside (by decide) n_q_0
    have b_q_0 : (w2.setCell ⟨w1.heap.size, 2, none⟩ (.int .i64 N)).frozen? ⟨w1.heap.size, 0, none⟩ = false := set_frozen m_q_0
    have a_r_0 : (w2.setCell ⟨w1.heap.size, 2, none⟩ (.int .i64 N)).cell? ⟨w.heap.size + 1, 0, none⟩ = some (.int .i64 0) := set_far (by omega) n_r_0
    have b_r_0 : (w2.setCell ⟨w1.heap.size, 2, none⟩ (.int .i64 N)).frozen? ⟨w.heap.size + 1, 0, none⟩ = false := set_frozen m_r_0
    have a_p_0 := set_far (B := w1.heap.size) (o := 2) (x := .int .i64 N) (by omega) n_p_0
    have a_q_1 : (w2.setCell ⟨w1.heap.size, 2, none⟩ (.int .i64 N)).cell? ⟨w1.heap.size, 1, none⟩ = some (.int .i64 y) := set_beside (by decide) n_q_1
    have b_q_1 : (w2.setCell ⟨w1.heap.size, 2, none⟩ (.int .i64 N)).frozen? ⟨w1.heap.size, 1, none⟩ = false := set_frozen m_q_1
    have a_r_1 : (w2.setCell ⟨w1.heap.size, 2, none⟩ (.int .i64 N)).cell? ⟨w.heap.size + 1, 1, none⟩ = some (.int .i64 0) := set_far (by omega) n_r_1
    have b_r_1 : (w2.setCell ⟨w1.heap.size, 2, none⟩ (.int .i64 N)).frozen? ⟨w.heap.size + 1, 1, none⟩ = false := set_frozen m_r_1
    have a_p_1 := set_far (B := w1.heap.size) (o := 2) (x := .int .i64 N) (by omega) n_p_1
    have a_q_2 : (w2.setCell ⟨w1.heap.size, 2, none⟩ (.int .i64 N)).cell? ⟨w1.heap.size, 2, none⟩ = some (.int .i64 N) := set_same (held_of n_q_2)
    have b_q_2 : (w2.setCell ⟨w1.heap.size, 2, none⟩ (.int .i64 N)).frozen? ⟨w1.heap.size, 2, none⟩ = false := set_frozen m_q_2
    have a_r_2 : (w2.setCell ⟨w1.heap.size, 2, none⟩ (.int .i64 N)).cell? ⟨w.heap.size + 1, 2, none⟩ = some (.int .i64 0) := set_far (by omega) n_r_2
    have b_r_2 : (w2.setCell ⟨w1.heap.size, 2, none⟩ (.int .i64 N)).frozen? ⟨w.heap.size + 1, 2, none⟩ = false := set_frozen m_r_2
    have a_p_2 := set_far (B := w1.heap.size) (o := 2) (x := .int .i64 N) (by omega) n_p_2
    have a_q_3 : (w2.setCell ⟨w1.heap.size, 2, none⟩ (.int .i64 N)).cell? ⟨w1.heap.size, 3, none⟩ = some (.int .i64 0) := set_beside (by decide) n_q_3
    have b_q_3 : (w2.setCell ⟨w1.heap.size, 2, none⟩ (.int .i64 N)).frozen? ⟨w1.heap.size, 3, none⟩ = false := set_frozen m_q_3
    have a_r_3 : (w2.setCell ⟨w1.heap.size, 2, none⟩ (.int .i64 N)).cell? ⟨w.heap.size + 1, 3, none⟩ = some (.int .i64 0) := set_far (by omega) n_r_3
    have b_r_3 : (w2.setCell ⟨w1.heap.size, 2, none⟩ (.int .i64 N)).frozen? ⟨w.heap.size + 1, 3, none⟩ = false := set_frozen m_r_3
    have a_p_3 := set_far (B := w1.heap.size) (o := 2) (x := .int .i64 N) (by omega) n_p_3
    have hB3 : Below w.heap.size w (w2.setCell ⟨w1.heap.size, 2, none⟩ (.int .i64 N)) := set1_below hB2 (by omega)
    clear hB2
    clear n_q_0 m_q_0 n_r_0 m_r_0 n_p_0 n_q_1 m_q_1 n_r_1 m_r_1 n_p_1 n_q_2 m_q_2 n_r_2 m_r_2 n_p_2 n_q_3 m_q_3 n_r_3 m_r_3 n_p_3
    generalize w2.setCell ⟨w1.heap.size, 2, none⟩ (.int .i64 N) = w3 at *
    have n_q_0 := a_q_0
    have m_q_0 := b_q_0
    have n_r_0 := a_r_0
    have m_r_0 := b_r_0
    have n_p_0 := a_p_0
    clear a_q_0 b_q_0 a_r_0 b_r_0 a_p_0
    have n_q_1 := a_q_1
    have m_q_1 := b_q_1
    have n_r_1 := a_r_1
    have m_r_1 := b_r_1
    have n_p_1 := a_p_1
    clear a_q_1 b_q_1 a_r_1 b_r_1 a_p_1
    have n_q_2 := a_q_2
    have m_q_2 := b_q_2
    have n_r_2 := a_r_2
    have m_r_2 := b_r_2
    have n_p_2 := a_p_2
    clear a_q_2 b_q_2 a_r_2 b_r_2 a_p_2
    have n_q_3 := a_q_3
    have m_q_3 := b_q_3
    have n_r_3 := a_r_3
    have m_r_3 := b_r_3
    have n_p_3 := a_p_3
    clear a_q_3 b_q_3 a_r_3 b_r_3 a_p_3
    refine (pick_any e 15 _ ie (by decide) (by decide)).mono ?_
    rintro ed wx ⟨rfl, rfl⟩
    rw [HQ.out]
    have a_q_0 : (w3.setCell ⟨w1.heap.size, 3, none⟩ (.int .i64 N)).cell? ⟨w1.heap.size, 0, none⟩ = some (.int .i64 x) := set_beside (by decide) n_q_0
    have b_q_0 : (w3.setCell ⟨w1.heap.size, 3, none⟩ (.int .i64 N)).frozen? ⟨w1.heap.size, 0, none⟩ = false := set_frozen m_q_0
    have a_r_0 : (w3.setCell ⟨w1.heap.size, 3, none⟩ (.int .i64 N)).cell? ⟨w.heap.size + 1, 0, none⟩ = some (.int .i64 0) := set_far (by omega) n_r_0
    have b_r_0 : (w3.setCell ⟨w1.heap.size, 3, none⟩ (.int .i64 N)).frozen? ⟨w.heap.size + 1, 0, none⟩ = false := set_frozen m_r_0
    have a_p_0 := set_far (B := w1.heap.size) (o := 3) (x := .int .i64 N) (by omega) n_p_0
    have a_q_1 : (w3.setCell ⟨w1.heap.size, 3, none⟩ (.int .i64 N)).cell? ⟨w1.heap.size, 1, none⟩ = some (.int .i64 y) := set_beside (by decide) n_q_1
    have b_q_1 : (w3.setCell ⟨w1.heap.size, 3, none⟩ (.int .i64 N)).frozen? ⟨w1.heap.size, 1, none⟩ = false := set_frozen m_q_1
    have a_r_1 : (w3.setCell ⟨w1.heap.size, 3, none⟩ (.int .i64 N)).cell? ⟨w.heap.size + 1, 1, none⟩ = some (.int .i64 0) := set_far (by omega) n_r_1
    have b_r_1 : (w3.setCell ⟨w1.heap.size, 3, none⟩ (.int .i64 N)).frozen? ⟨w.heap.size + 1, 1, none⟩ = false := set_frozen m_r_1
    have a_p_1 := set_far (B := w1.heap.size) (o := 3) (x := .int .i64 N) (by omega) n_p_1
    have a_q_2 : (w3.setCell ⟨w1.heap.size, 3, none⟩ (.int .i64 N)).cell? ⟨w1.heap.size, 2, none⟩ = some (.int .i64 N) := set_beside (by decide) n_q_2
    have b_q_2 : (w3.setCell ⟨w1.heap.size, 3, none⟩ (.int .i64 N)).frozen? ⟨w1.heap.size, 2, none⟩ = false := set_frozen m_q_2
    have a_r_2 : (w3.setCell ⟨w1.heap.size, 3, none⟩ (.int .i64 N)).cell? ⟨w.heap.size + 1, 2, none⟩ = some (.int .i64 0) := set_far (by omega) n_r_2
    have b_r_2 : (w3.setCell ⟨w1.heap.size, 3, none⟩ (.int .i64 N)).frozen? ⟨w.heap.size + 1, 2, none⟩ = false := set_frozen m_r_2
    have a_p_2 := set_far (B := w1.heap.size) (o := 3) (x := .int .i64 N) (by omega) n_p_2
    have a_q_3 : (w3.setCell ⟨w1.heap.size, 3, none⟩ (.int .i64 N)).cell? ⟨w1.heap.size, 3, none⟩ = some (.int .i64 N) := set_same (held_of n_q_3)
    have b_q_3 : (w3.setCell ⟨w1.heap.size, 3, none⟩ (.int .i64 N)).frozen? ⟨w1.heap.size, 3, none⟩ = false := set_frozen m_q_3
    have a_r_3 : (w3.setCell ⟨w1.heap.size, 3, none⟩ (.int .i64 N)).cell? ⟨w.heap.size + 1, 3, none⟩ = some (.int .i64 0) := set_far (by omega) n_r_3
    have b_r_3 : (w3.setCell ⟨w1.heap.size, 3, none⟩ (.int .i64 N)).frozen? ⟨w.heap.size + 1, 3, none⟩ = false := set_frozen m_r_3
    have a_p_3 := set_far (B := w1.heap.size) (o := 3) (x := .int .i64 N) (by omega) n_p_3
    have d_r_0 : ((w3.setCell ⟨w1.heap.size, 3, none⟩ (.int .i64 N)).setCell ⟨w1.heap.size, 3, none⟩ (.int .i64 L)).cell? ⟨w.heap.size + 1, 0, none⟩ = some (.int .i64 0) := set_far (by omega) a_r_0
    have g_r_0 : ((w3.setCell ⟨w1.heap.size, 3, none⟩ (.int .i64 N)).setCell ⟨w1.heap.size, 3, none⟩ (.int .i64 L)).frozen? ⟨w.heap.size + 1, 0, none⟩ = false := set_frozen b_r_0
    have d_q_0 : ((w3.setCell ⟨w1.heap.size, 3, none⟩ (.int .i64 N)).setCell ⟨w1.heap.size, 3, none⟩ (.int .i64 L)).cell? ⟨w1.heap.size, 0, none⟩ = some (.int .i64 x) := set_beside (by decide) a_q_0
    have d_r_1 : ((w3.setCell ⟨w1.heap.size, 3, none⟩ (.int .i64 N)).setCell ⟨w1.heap.size, 3, none⟩ (.int .i64 L)).cell? ⟨w.heap.size + 1, 1, none⟩ = some (.int .i64 0) := set_far (by omega) a_r_1
    have g_r_1 : ((w3.setCell ⟨w1.heap.size, 3, none⟩ (.int .i64 N)).setCell ⟨w1.heap.size, 3, none⟩ (.int .i64 L)).frozen? ⟨w.heap.size + 1, 1, none⟩ = false := set_frozen b_r_1
    have d_q_1 : ((w3.setCell ⟨w1.heap.size, 3, none⟩ (.int .i64 N)).setCell ⟨w1.heap.size, 3, none⟩ (.int .i64 L)).cell? ⟨w1.heap.size, 1, none⟩ = some (.int .i64 y) := set_beside (by decide) a_q_1
    have d_r_2 : ((w3.setCell ⟨w1.heap.size, 3, none⟩ (.int .i64 N)).setCell ⟨w1.heap.size, 3, none⟩ (.int .i64 L)).cell? ⟨w.heap.size + 1, 2, none⟩ = some (.int .i64 0) := set_far (by omega) a_r_2
    have g_r_2 : ((w3.setCell ⟨w1.heap.size, 3, none⟩ (.int .i64 N)).setCell ⟨w1.heap.size, 3, none⟩ (.int .i64 L)).frozen? ⟨w.heap.size + 1, 2, none⟩ = false := set_frozen b_r_2
    have d_q_2 : ((w3.setCell ⟨w1.heap.size, 3, none⟩ (.int .i64 N)).setCell ⟨w1.heap.size, 3, none⟩ (.int .i64 L)).cell? ⟨w1.heap.size, 2, none⟩ = some (.int .i64 N) := set_beside (by decide) a_q_2
    have d_r_3 : ((w3.setCell ⟨w1.heap.size, 3, none⟩ (.int .i64 N)).setCell ⟨w1.heap.size, 3, none⟩ (.int .i64 L)).cell? ⟨w.heap.size + 1, 3, none⟩ = some (.int .i64 0) := set_far (by omega) a_r_3
    have g_r_3 : ((w3.setCell ⟨w1.heap.size, 3, none⟩ (.int .i64 N)).setCell ⟨w1.heap.size, 3, none⟩ (.int .i64 L)).frozen? ⟨w.heap.size + 1, 3, none⟩ = false := set_frozen b_r_3
    have d_q_3 : ((w3.setCell ⟨w1.heap.size, 3, none⟩ (.int .i64 N)).setCell ⟨w1.heap.size, 3, none⟩ (.int .i64 L)).cell? ⟨w1.heap.size, 3, none⟩ = some (.int .i64 L) := set_same (held_of a_q_3)
    obtain ⟨e0, e1, e2, e3⟩ := put4_of (x := .int .i64 x) (y := .int .i64 y) (z := .int .i64 N) (u := .int .i64 L) d_r_0 d_r_1 d_r_2 d_r_3
    go_wp2
    exact bodyPost_ret (v := vl x y N L) (by simp [results, Tryz.results14, go_sem, e0, e1, e2, e3]) rfl ⟨rfl, put4_below (set1_below (set1_below hB3 (by omega)) (by omega)) (by omega)⟩

/-- Value answers one right value, in whatever world; its base, its dots. -/
theorem value_fix (b d n e : Int) (ib : Rat.I64 b) (id' : Rat.I64 d) (in' : Rat.I64 n) (ie : Rat.I64 e) : ∃ N E, Val.ok (pickS b 7) (pickS d 3) N E = true ∧ ∀ w, Calls Tryz.prog 14 #[vl b d n e] w fun ed w' => ed = .returned (vl (pickS b 7) (pickS d 3) N E) ∧ Below w.heap.size w w' := by
  obtain ⟨x0, x1⟩ := pickS_bounds b (n := 7) (by decide)
  obtain ⟨y0, y1⟩ := pickS_bounds d (n := 3) (by decide)
  obtain ⟨p0, p1⟩ := pickS_bounds n (n := 14) (by decide)
  obtain ⟨q0, q1⟩ := pickS_bounds e (n := 15) (by decide)
  by_cases hr : 0 < pickS n 4
  · have hN : IntKind.i64.wrap (2 + pickS n 14) = 2 + pickS n 14 := IntWalk.i64_in _ (by omega)
    have hE : IntKind.i64.wrap (1 + pickS e 15) = 1 + pickS e 15 := IntWalk.i64_in _ (by omega)
    by_cases hne : 2 + pickS n 14 = 1 + pickS e 15
    · exact ⟨_, _, (Val.ok_iff _ _ _ _).2 ⟨by omega, by omega, by omega, by omega, .inr ⟨by omega, by omega, by omega, by omega, by omega⟩⟩, fun w => value_eq b d n e w ib id' in' _ _ _ (Lib.hid rfl) (Lib.hid rfl) (Lib.hid rfl) ie _ _ (2 + pickS n 14) (2 + pickS n 14 - 1) hr (Lib.hid rfl) (Lib.hid rfl) hN (by rw [hE, hne]) (IntWalk.i64_in _ (by omega))⟩
    · exact ⟨_, _, (Val.ok_iff _ _ _ _).2 ⟨by omega, by omega, by omega, by omega, .inr ⟨by omega, by omega, by omega, by omega, hne⟩⟩, fun w => value_yes b d n e w ib id' in' _ _ _ (Lib.hid rfl) (Lib.hid rfl) (Lib.hid rfl) ie _ _ _ _ hr (Lib.hid rfl) (Lib.hid rfl) hN hE (by simpa using hne)⟩
  · exact ⟨0, 0, (Val.ok_iff _ _ _ _).2 ⟨by omega, by omega, by omega, by omega, .inl ⟨rfl, rfl⟩⟩, fun w => value_no b d n e w ib id' in' _ _ _ (Lib.hid rfl) (Lib.hid rfl) (Lib.hid rfl) hr⟩
end Go.Proofs.YtejiifkenanodaaGreatDoor
