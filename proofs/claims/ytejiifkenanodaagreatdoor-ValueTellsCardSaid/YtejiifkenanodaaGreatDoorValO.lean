/-
  The contracts of the reference's units and longest.
-/
import Derived.Test.YtejiifkenanodaaGreatDoorValN
namespace Go.Proofs.YtejiifkenanodaaGreatDoor
open Go.RowKit

set_option maxRecDepth 100000 in
set_option maxHeartbeats 4000000 in
theorem vrefUnits_pz (x y b d n e M D R Q : Int) (w : World) (hn : ¬ 0 < n) (hM : IntKind.i64.wrap (x * 64) = M) (hD : y = D) (hd1 : 1 ≤ D) (_hz : (D == 0) = false) (hm : M.tmod D = R) (hq : M.tdiv D = Q) (hQ : wrap64 Q = Q) (hr : (R != 0) = false) :
    Calls Tryz.prog 78 #[rt x y, vl b d n e] w fun ed w' => ed = .returned (.int .i64 Q) ∧ Below w.heap.size w w' := by
  subst hD
  go_enter Tryz.func78, Tryz.ntmps78
  go_wp2
  go_ret
  exact ⟨(by first | rfl | exact ret_int hQ), (by repeat (first | exact Below.refl _ _ | refine below_drewN ?_ _ | refine Below.drew ?_ | refine Below.setCell ?_ (by simp <;> omega) _ | refine Below.alloc ?_ (by simp <;> omega) _))⟩

set_option maxRecDepth 100000 in
set_option maxHeartbeats 4000000 in
theorem vrefUnits_pn (x y b d n e M D R : Int) (w : World) (hn : ¬ 0 < n) (hM : IntKind.i64.wrap (x * 64) = M) (hD : y = D) (hd1 : 1 ≤ D) (_hz : (D == 0) = false) (hm : M.tmod D = R) (hr : (R != 0) = true) :
    Calls Tryz.prog 78 #[rt x y, vl b d n e] w fun ed w' => ed = .returned (.int .i64 0) ∧ Below w.heap.size w w' := by
  subst hD
  go_enter Tryz.func78, Tryz.ntmps78
  go_wp2
  go_ret
  exact ⟨rfl, (by repeat (first | exact Below.refl _ _ | refine below_drewN ?_ _ | refine Below.drew ?_ | refine Below.setCell ?_ (by simp <;> omega) _ | refine Below.alloc ?_ (by simp <;> omega) _))⟩

set_option maxRecDepth 100000 in
set_option maxHeartbeats 4000000 in
theorem vrefUnits_tz (x y b d n e M D R Q : Int) (w : World) (hn : 0 < n) (M1 : Int) (hM1 : IntKind.i64.wrap (x * 64) = M1) (hM : IntKind.i64.wrap (M1 * n) = M) (hD : IntKind.i64.wrap (y * e) = D) (hd1 : 1 ≤ D) (_hz : (D == 0) = false) (hm : M.tmod D = R) (hq : M.tdiv D = Q) (hQ : wrap64 Q = Q) (hr : (R != 0) = false) :
    Calls Tryz.prog 78 #[rt x y, vl b d n e] w fun ed w' => ed = .returned (.int .i64 Q) ∧ Below w.heap.size w w' := by
  go_enter Tryz.func78, Tryz.ntmps78
  go_wp2
  go_ret
  exact ⟨(by first | rfl | exact ret_int hQ), (by repeat (first | exact Below.refl _ _ | refine below_drewN ?_ _ | refine Below.drew ?_ | refine Below.setCell ?_ (by simp <;> omega) _ | refine Below.alloc ?_ (by simp <;> omega) _))⟩

set_option maxRecDepth 100000 in
set_option maxHeartbeats 4000000 in
theorem vrefUnits_tn (x y b d n e M D R : Int) (w : World) (hn : 0 < n) (M1 : Int) (hM1 : IntKind.i64.wrap (x * 64) = M1) (hM : IntKind.i64.wrap (M1 * n) = M) (hD : IntKind.i64.wrap (y * e) = D) (hd1 : 1 ≤ D) (_hz : (D == 0) = false) (hm : M.tmod D = R) (hr : (R != 0) = true) :
    Calls Tryz.prog 78 #[rt x y, vl b d n e] w fun ed w' => ed = .returned (.int .i64 0) ∧ Below w.heap.size w w' := by
  go_enter Tryz.func78, Tryz.ntmps78
  go_wp2
  go_ret
  exact ⟨rfl, (by repeat (first | exact Below.refl _ _ | refine below_drewN ?_ _ | refine Below.drew ?_ | refine Below.setCell ?_ (by simp <;> omega) _ | refine Below.alloc ?_ (by simp <;> omega) _))⟩

/-- How many units: 0, if these are not whole. -/
def unV (M D : Int) : Int := if M % D = 0 then M / D else 0
theorem div_w64 {M D : Int} (h0 : 0 ≤ M) (h1 : M ≤ 1000000000000000) (hd : 1 ≤ D) : wrap64 (M / D) = M / D := by
  have a := Int.ediv_nonneg h0 (show 0 ≤ D by omega)
  have b := Int.ediv_le_self D h0
  unfold wrap64
  omega
theorem tdiv_walk {M : Int} (D : Int) (h0 : 0 ≤ M) : M.tdiv D = M / D ∧ M.tmod D = M % D := ⟨Int.tdiv_eq_ediv_of_nonneg h0, Int.tmod_eq_emod_of_nonneg h0⟩
theorem vrefUnits_plain {x y n : Int} (b d e : Int) (hn : ¬ 0 < n) (x0 : 0 ≤ x) (x1 : x ≤ 1000000000) (y1 : 1 ≤ y) (w : World) :
    Calls Tryz.prog 78 #[rt x y, vl b d n e] w fun ed w' => ed = .returned (.int .i64 (unV (x * 64) y)) ∧ Below w.heap.size w w' := by
  have hM : IntKind.i64.wrap (x * 64) = x * 64 := IntWalk.i64_in _ (by omega)
  obtain ⟨h1, h2⟩ := tdiv_walk (M := x * 64) y (by omega)
  unfold unV
  by_cases hr : x * 64 % y = 0
  · rw [if_pos hr]; exact vrefUnits_pz x y b d n e _ y _ _ w hn hM rfl y1 (by simp; omega) h2 h1 (div_w64 (by omega) (by omega) (by omega)) (by rw [hr]; rfl)
  · rw [if_neg hr]; exact vrefUnits_pn x y b d n e _ y _ w hn hM rfl y1 (by simp; omega) h2 (by simpa using hr)
theorem vrefUnits_tup {x y n e : Int} (b d : Int) (hn : 0 < n) (n15 : n ≤ 15) (e1 : 1 ≤ e) (e15 : e ≤ 15) (x0 : 0 ≤ x) (x1 : x ≤ 1000000000) (y1 : 1 ≤ y) (y2 : y ≤ 1000000000) (w : World) :
    Calls Tryz.prog 78 #[rt x y, vl b d n e] w fun ed w' => ed = .returned (.int .i64 (unV (x * 64 * n) (y * e))) ∧ Below w.heap.size w w' := by
  have hM1 : IntKind.i64.wrap (x * 64) = x * 64 := IntWalk.i64_in _ (by omega)
  have h3 : x * 64 * n ≤ x * 64 * 15 := Int.mul_le_mul_of_nonneg_left n15 (by omega)
  have h4 : 0 ≤ x * 64 * n := Int.mul_nonneg (by omega) (by omega)
  have h5 : y * e ≤ y * 15 := Int.mul_le_mul_of_nonneg_left e15 (by omega)
  have h6 : y * 1 ≤ y * e := Int.mul_le_mul_of_nonneg_left e1 (by omega)
  have hM : IntKind.i64.wrap (x * 64 * n) = x * 64 * n := IntWalk.i64_in _ (by omega)
  have hD : IntKind.i64.wrap (y * e) = y * e := IntWalk.i64_in _ (by omega)
  obtain ⟨h1, h2⟩ := tdiv_walk (M := x * 64 * n) (y * e) (by omega)
  unfold unV
  by_cases hr : x * 64 * n % (y * e) = 0
  · rw [if_pos hr]; exact vrefUnits_tz x y b d n e _ _ _ _ w hn _ hM1 hM hD (by omega) (by simp; omega) h2 h1 (div_w64 (by omega) (by omega) (by omega)) (by rw [hr]; rfl)
  · rw [if_neg hr]; exact vrefUnits_tn x y b d n e _ _ _ w hn _ hM1 hM hD (by omega) (by simp; omega) h2 (by simpa using hr)

namespace Val
/-- The reference's search of the longest: candidate by candidate. -/
def cu (k : Nat) : Int := if (ba (k / 3 : Nat) * dt (k % 3 : Nat)) % 4 = 0 then (ba (k / 3 : Nat) * dt (k % 3 : Nat)) / 4 else 0
def stp (m : Int) (s : Int × Int × Int) (k : Nat) : Int × Int × Int := if s.2.2 < cu k ∧ cu k ≤ m then (((k / 3 : Nat) : Int), ((k % 3 : Nat) : Int), cu k) else s
def srch (m : Int) : Nat → Int × Int × Int
  | 0 => (0, 0, 0)
  | k + 1 => stp m (srch m k) k
theorem srch_all : ∀ k : Fin 112, srch ((k.val : Int) + 1) 21 = (gB ((k.val : Int) + 1), gT ((k.val : Int) + 1), gU ((k.val : Int) + 1)) := by decide +kernel
theorem stp_big {m : Int} (h : 112 ≤ m) (s : Int × Int × Int) (k : Nat) (hk : k < 21) : stp m s k = stp 112 s k := by
  have hc : ∀ k : Fin 21, cu k.val ≤ 112 := by decide
  have := hc ⟨k, hk⟩
  simp only at this
  unfold stp
  by_cases h1 : s.2.2 < cu k
  · rw [if_pos ⟨h1, by omega⟩, if_pos ⟨h1, this⟩]
  · rw [if_neg (fun h => h1 h.1), if_neg (fun h => h1 h.1)]
theorem srch_is {m : Int} (h : 1 ≤ m) : srch m 21 = (gB m, gT m, gU m) := by
  by_cases hb : 112 ≤ m
  · have key : ∀ n, n ≤ 21 → srch m n = srch 112 n := by
      intro n
      induction n with
      | zero => intro _; rfl
      | succ n ih => intro hn; rw [srch, srch, ih (by omega), stp_big hb _ _ (by omega)]
    rw [key 21 (by omega)]
    have := srch_all ⟨111, by decide⟩
    simp only at this
    rw [show ((111 : Nat) : Int) + 1 = 112 from rfl] at this
    rw [this]
    unfold gB gT gU
    rw [fits_first hb, fits_first (m := 112) (by omega)]
  · have := srch_all ⟨(m - 1).toNat, by omega⟩
    simp only [show (((m - 1).toNat : Nat) : Int) + 1 = m by omega] at this
    exact this
theorem cu_at {b d : Nat} (hb : b < 7) (hd : d < 3) : unV ((bt ((d : Int) + 1) - 1) * 64) (bt b * bt d) = cu (3 * b + d) := by
  have key : ∀ b : Fin 7, ∀ d : Fin 3, unV ((bt ((d.val : Int) + 1) - 1) * 64) (bt b.val * bt d.val) = cu (3 * b.val + d.val) := by decide +kernel
  exact key ⟨b, hb⟩ ⟨d, hd⟩
theorem cu_le (k : Nat) (hk : k < 21) : 0 ≤ cu k ∧ cu k ≤ 112 := by
  have key : ∀ k : Fin 21, 0 ≤ cu k.val ∧ cu k.val ≤ 112 := by decide
  exact key ⟨k, hk⟩
end Val

structure LMem (B D : Int) (w wr : World) : Prop where
  r0 : wr.cell? ⟨w.heap.size, 0, none⟩ = some (.int .i64 0)
  r1 : wr.cell? ⟨w.heap.size, 1, none⟩ = some (.int .i64 0)
  r2 : wr.cell? ⟨w.heap.size, 2, none⟩ = some (.int .i64 0)
  r3 : wr.cell? ⟨w.heap.size, 3, none⟩ = some (.int .i64 0)
  f0 : wr.frozen? ⟨w.heap.size, 0, none⟩ = false
  f1 : wr.frozen? ⟨w.heap.size, 1, none⟩ = false
  f2 : wr.frozen? ⟨w.heap.size, 2, none⟩ = false
  f3 : wr.frozen? ⟨w.heap.size, 3, none⟩ = false
  c0 : wr.cell? ⟨w.heap.size + 1, 0, none⟩ = some (.int .i64 B)
  c1 : wr.cell? ⟨w.heap.size + 1, 1, none⟩ = some (.int .i64 D)
  c2 : wr.cell? ⟨w.heap.size + 1, 2, none⟩ = some (.int .i64 0)
  c3 : wr.cell? ⟨w.heap.size + 1, 3, none⟩ = some (.int .i64 0)
  g0 : wr.frozen? ⟨w.heap.size + 1, 0, none⟩ = false
  g1 : wr.frozen? ⟨w.heap.size + 1, 1, none⟩ = false
  g2 : wr.frozen? ⟨w.heap.size + 1, 2, none⟩ = false
  g3 : wr.frozen? ⟨w.heap.size + 1, 3, none⟩ = false
  below : Below w.heap.size w wr
theorem LMem.later {B D : Int} {w wr wx : World} (h : LMem B D w wr) (hb : Below wr.heap.size wr wx) : LMem B D w wx :=
  ⟨cell_later hb h.r0, cell_later hb h.r1, cell_later hb h.r2, cell_later hb h.r3, frozen_later hb h.r0 h.f0, frozen_later hb h.r1 h.f1, frozen_later hb h.r2 h.f2, frozen_later hb h.r3 h.f3, cell_later hb h.c0, cell_later hb h.c1, cell_later hb h.c2, cell_later hb h.c3, frozen_later hb h.c0 h.g0, frozen_later hb h.c1 h.g1, frozen_later hb h.c2 h.g2, frozen_later hb h.c3 h.g3, below_two h.below hb⟩
theorem LMem.put {B D : Int} {w wr : World} (h : LMem B D w wr) (X Y : Int) : LMem X Y w (put4 wr (w.heap.size + 1) (.int .i64 X) (.int .i64 Y) (.int .i64 0) (.int .i64 0)) := by
  obtain ⟨m0, m1, m2, m3⟩ := put4_of (x := .int .i64 X) (y := .int .i64 Y) (z := .int .i64 0) (u := .int .i64 0) h.c0 h.c1 h.c2 h.c3
  have far : ∀ {o : Nat} {v : Value}, wr.cell? ⟨w.heap.size, o, none⟩ = some v → (put4 wr (w.heap.size + 1) (.int .i64 X) (.int .i64 Y) (.int .i64 0) (.int .i64 0)).cell? ⟨w.heap.size, o, none⟩ = some v := fun e => set_far (by omega) (set_far (by omega) (set_far (by omega) (set_far (by omega) e)))
  have frz : ∀ {a : Addr}, wr.frozen? a = false → (put4 wr (w.heap.size + 1) (.int .i64 X) (.int .i64 Y) (.int .i64 0) (.int .i64 0)).frozen? a = false := fun e => set_frozen (set_frozen (set_frozen (set_frozen e)))
  exact ⟨far h.r0, far h.r1, far h.r2, far h.r3, frz h.f0, frz h.f1, frz h.f2, frz h.f3, m0, m1, m2, m3, frz h.g0, frz h.g1, frz h.g2, frz h.g3, put4_below h.below (by omega)⟩
/-- Behind k candidates. -/
def LRel (m : Int) (k : Nat) (w : World) (a : Value) (wr : World) : Prop := ∃ B D L : Int, a = .int .i64 L ∧ Hid (Val.srch m k = (B, D, L)) ∧ LMem B D w wr
def LOut (m : Int) (w : World) (a i : Value) (wr : World) : Prop := ∃ b : Nat, i = .int .i64 (b : Int) ∧ b ≤ 7 ∧ LRel m (3 * b) w a wr
def LIn (m : Int) (b : Nat) (w : World) (a i : Value) (wr : World) : Prop := ∃ d : Nat, i = .int .i64 (d : Int) ∧ d ≤ 3 ∧ LRel m (3 * b + d) w a wr

set_option maxRecDepth 100000 in
set_option maxHeartbeats 4000000 in
theorem longest_any (m : Int) (w : World) (hm : 1 ≤ m) :
    Calls Tryz.prog 79 #[.int .i64 m] w fun ed w' => ed = .returned (.tuple #[vl (Val.gB m) (Val.gT m) 0 0, .int .i64 (Val.gU m)]) ∧ Below w.heap.size w w' := by
  have hB0 : Below w.heap.size w w := Below.refl _ _
  go_enter Tryz.func79, Tryz.ntmps79
  go_wp2_with fail
  have hs1 : Below w.heap.size w ((w.alloc (.cells #[.int .i64 0, .int .i64 0, .int .i64 0, .int .i64 0] 23)).alloc (.cells #[.int .i64 0, .int .i64 0, .int .i64 0, .int .i64 0] 23)) := by repeat (first | exact Below.refl _ _ | refine Below.alloc ?_ (by simp <;> omega) _)
  have c_r_0 : ((w.alloc (.cells #[.int .i64 0, .int .i64 0, .int .i64 0, .int .i64 0] 23)).alloc (.cells #[.int .i64 0, .int .i64 0, .int .i64 0, .int .i64 0] 23)).cell? ⟨w.heap.size, 0, none⟩ = some (.int .i64 0) := by go_simp
  have f_r_0 : ((w.alloc (.cells #[.int .i64 0, .int .i64 0, .int .i64 0, .int .i64 0] 23)).alloc (.cells #[.int .i64 0, .int .i64 0, .int .i64 0, .int .i64 0] 23)).frozen? ⟨w.heap.size, 0, none⟩ = false := by go_simp
  have c_r_1 : ((w.alloc (.cells #[.int .i64 0, .int .i64 0, .int .i64 0, .int .i64 0] 23)).alloc (.cells #[.int .i64 0, .int .i64 0, .int .i64 0, .int .i64 0] 23)).cell? ⟨w.heap.size, 1, none⟩ = some (.int .i64 0) := by go_simp
  have f_r_1 : ((w.alloc (.cells #[.int .i64 0, .int .i64 0, .int .i64 0, .int .i64 0] 23)).alloc (.cells #[.int .i64 0, .int .i64 0, .int .i64 0, .int .i64 0] 23)).frozen? ⟨w.heap.size, 1, none⟩ = false := by go_simp
  have c_r_2 : ((w.alloc (.cells #[.int .i64 0, .int .i64 0, .int .i64 0, .int .i64 0] 23)).alloc (.cells #[.int .i64 0, .int .i64 0, .int .i64 0, .int .i64 0] 23)).cell? ⟨w.heap.size, 2, none⟩ = some (.int .i64 0) := by go_simp
  have f_r_2 : ((w.alloc (.cells #[.int .i64 0, .int .i64 0, .int .i64 0, .int .i64 0] 23)).alloc (.cells #[.int .i64 0, .int .i64 0, .int .i64 0, .int .i64 0] 23)).frozen? ⟨w.heap.size, 2, none⟩ = false := by go_simp
  have c_r_3 : ((w.alloc (.cells #[.int .i64 0, .int .i64 0, .int .i64 0, .int .i64 0] 23)).alloc (.cells #[.int .i64 0, .int .i64 0, .int .i64 0, .int .i64 0] 23)).cell? ⟨w.heap.size, 3, none⟩ = some (.int .i64 0) := by go_simp
  have f_r_3 : ((w.alloc (.cells #[.int .i64 0, .int .i64 0, .int .i64 0, .int .i64 0] 23)).alloc (.cells #[.int .i64 0, .int .i64 0, .int .i64 0, .int .i64 0] 23)).frozen? ⟨w.heap.size, 3, none⟩ = false := by go_simp
  have c_c_0 : ((w.alloc (.cells #[.int .i64 0, .int .i64 0, .int .i64 0, .int .i64 0] 23)).alloc (.cells #[.int .i64 0, .int .i64 0, .int .i64 0, .int .i64 0] 23)).cell? ⟨w.heap.size + 1, 0, none⟩ = some (.int .i64 0) := by go_simp
  have f_c_0 : ((w.alloc (.cells #[.int .i64 0, .int .i64 0, .int .i64 0, .int .i64 0] 23)).alloc (.cells #[.int .i64 0, .int .i64 0, .int .i64 0, .int .i64 0] 23)).frozen? ⟨w.heap.size + 1, 0, none⟩ = false := by go_simp
  have c_c_1 : ((w.alloc (.cells #[.int .i64 0, .int .i64 0, .int .i64 0, .int .i64 0] 23)).alloc (.cells #[.int .i64 0, .int .i64 0, .int .i64 0, .int .i64 0] 23)).cell? ⟨w.heap.size + 1, 1, none⟩ = some (.int .i64 0) := by go_simp
  have f_c_1 : ((w.alloc (.cells #[.int .i64 0, .int .i64 0, .int .i64 0, .int .i64 0] 23)).alloc (.cells #[.int .i64 0, .int .i64 0, .int .i64 0, .int .i64 0] 23)).frozen? ⟨w.heap.size + 1, 1, none⟩ = false := by go_simp
  have c_c_2 : ((w.alloc (.cells #[.int .i64 0, .int .i64 0, .int .i64 0, .int .i64 0] 23)).alloc (.cells #[.int .i64 0, .int .i64 0, .int .i64 0, .int .i64 0] 23)).cell? ⟨w.heap.size + 1, 2, none⟩ = some (.int .i64 0) := by go_simp
  have f_c_2 : ((w.alloc (.cells #[.int .i64 0, .int .i64 0, .int .i64 0, .int .i64 0] 23)).alloc (.cells #[.int .i64 0, .int .i64 0, .int .i64 0, .int .i64 0] 23)).frozen? ⟨w.heap.size + 1, 2, none⟩ = false := by go_simp
  have c_c_3 : ((w.alloc (.cells #[.int .i64 0, .int .i64 0, .int .i64 0, .int .i64 0] 23)).alloc (.cells #[.int .i64 0, .int .i64 0, .int .i64 0, .int .i64 0] 23)).cell? ⟨w.heap.size + 1, 3, none⟩ = some (.int .i64 0) := by go_simp
  have f_c_3 : ((w.alloc (.cells #[.int .i64 0, .int .i64 0, .int .i64 0, .int .i64 0] 23)).alloc (.cells #[.int .i64 0, .int .i64 0, .int .i64 0, .int .i64 0] 23)).frozen? ⟨w.heap.size + 1, 3, none⟩ = false := by go_simp
  have hB1 := below_two hB0 hs1
  clear hB0 hs1
  generalize ((w.alloc (.cells #[.int .i64 0, .int .i64 0, .int .i64 0, .int .i64 0] 23)).alloc (.cells #[.int .i64 0, .int .i64 0, .int .i64 0, .int .i64 0] 23)) = w1 at *
  have z_c := World.block_lt_of_cell? _ _ c_c_0
  have z_r := World.block_lt_of_cell? _ _ c_r_0
  have hM : LMem 0 0 w w1 := ⟨c_r_0, c_r_1, c_r_2, c_r_3, f_r_0, f_r_1, f_r_2, f_r_3, c_c_0, c_c_1, c_c_2, c_c_3, f_c_0, f_c_1, f_c_2, f_c_3, hB1⟩
  clear c_r_0 c_r_1 c_r_2 c_r_3 f_r_0 f_r_1 f_r_2 f_r_3 c_c_0 c_c_1 c_c_2 c_c_3 f_c_0 f_c_1 f_c_2 f_c_3 hB1 z_r z_c
  go_loopw [5, 6] (fun a i wr => LOut m w a i wr) (fun _ i _ => (7 - intOf i).toNat)
  case atStart => exact ⟨0, rfl, by omega, 0, 0, 0, rfl, Lib.hid rfl, hM⟩
  case round =>
    clear hM
    obtain ⟨b, rfl, hb, hL⟩ := hrel
    by_cases hb7 : b < 7
    · have HL0 := Lib.hid hL
      clear hL
      go_wp2_with fail
      (try rw [show decide ((b : Int) ≤ 6) = true from decide_eq_true (by omega)])
      go_loopw [5, 7] (fun a i wr => LIn m b w a i wr) (fun _ i _ => (3 - intOf i).toNat)
      case atStart => exact ⟨0, rfl, by omega, HL0.out⟩
      case round =>
        clear HL0
        obtain ⟨d, rfl, hd, B, D, L, rfl, HS, hM⟩ := hrel
        by_cases hd3 : d < 3
        · obtain ⟨x, HX⟩ : ∃ x, Hid (Val.bt ((d : Int) + 1) = x) := ⟨_, Lib.hid rfl⟩
          obtain ⟨y, HY⟩ : ∃ y, Hid (Val.bt (b : Int) = y) := ⟨_, Lib.hid rfl⟩
          obtain ⟨z, HZ⟩ : ∃ z, Hid (Val.bt (d : Int) = z) := ⟨_, Lib.hid rfl⟩
          have xb : 2 ≤ x ∧ x ≤ 8 := by have := dt_cases' (d := (d : Int)) (by omega) (by omega); rw [HX.out] at this; omega
          have zb : 1 ≤ z ∧ z ≤ 4 := by have := dt_cases' (d := (d : Int)) (by omega) (by omega); rw [HZ.out] at this; omega
          have yb : 1 ≤ y ∧ y ≤ 64 := by have := Val.bt_bounds (b := (b : Int)) (by omega) (by omega); rw [HY.out] at this; exact this
          have hyz : 1 ≤ y * z ∧ y * z ≤ 256 := by
            have h1 : y * 1 ≤ y * z := Int.mul_le_mul_of_nonneg_left zb.1 (by omega)
            have h2 : y * z ≤ y * 4 := Int.mul_le_mul_of_nonneg_left zb.2 (by omega)
            omega
          have hw1 : IntKind.i64.wrap ((d : Int) + 1) = (d : Int) + 1 := IntWalk.i64_in _ (by omega)
          have hw2 : IntKind.i64.wrap (x - 1) = x - 1 := IntWalk.i64_in _ (by omega)
          obtain ⟨P, HP⟩ : ∃ P, Hid (y * z = P) := ⟨_, Lib.hid rfl⟩
          have hw3 : IntKind.i64.wrap (y * z) = P := by rw [HP.out]; exact IntWalk.i64_in _ (by have := HP.out; omega)
          have hP1 : 1 ≤ P := by have := HP.out; omega
          clear hyz
          obtain ⟨C, HC⟩ : ∃ C, Hid (Val.cu (3 * b + d) = C) := ⟨_, Lib.hid rfl⟩
          have HU : Hid (unV ((x - 1) * 64) P = C) := Lib.hid (by rw [← HC.out, ← Val.cu_at hb7 hd3, HX.out, HY.out, HZ.out, HP.out])
          have HN : Hid (Val.srch m (3 * b + (d + 1)) = if L < C ∧ C ≤ m then ((b : Int), (d : Int), C) else (B, D, L)) := Lib.hid (by
            rw [show 3 * b + (d + 1) = (3 * b + d) + 1 by omega, Val.srch, HS.out]
            unfold Val.stp
            rw [HC.out, show (3 * b + d) / 3 = b by omega, show (3 * b + d) % 3 = d by omega])
          go_wp2_with fail
          refine (power_any (b := (d : Int) + 1) (by omega) (by omega) _).mono ?_
          rintro ed wx ⟨rfl, rfl⟩
          rw [HX.out]
          go_wp2_with fail
          refine (power_any (b := (b : Int)) (by omega) (by omega) _).mono ?_
          rintro ed wx ⟨rfl, rfl⟩
          rw [HY.out]
          go_wp2_with fail
          refine (power_any (b := (d : Int)) (by omega) (by omega) _).mono ?_
          rintro ed wx ⟨rfl, rfl⟩
          rw [HZ.out]
          go_wp2_with fail
          refine (vrefUnits_plain 0 0 0 (by omega) (by omega) (by omega) hP1 _).mono ?_
          rintro ed w2 ⟨rfl, hb2⟩
          rw [HU.out]
          replace hM := hM.later hb2
          clear hb2 hw1 hw2 hw3
          by_cases h1 : L < C
          · by_cases h2 : C ≤ m
            · have HN2 : Hid (Val.srch m (3 * b + (d + 1)) = ((b : Int), (d : Int), C)) := Lib.hid (by rw [HN.out, if_pos ⟨h1, h2⟩])
              have c0 := hM.c0
              have c1 := hM.c1
              have c2 := hM.c2
              have c3 := hM.c3
              have g0 := hM.g0
              have g1 := hM.g1
              have g2 := hM.g2
              have g3 := hM.g3
              have HM := Lib.hid (hM.put (b : Int) (d : Int))
              clear hM
              go_wp2
              go_roundw
              case rel => exact ⟨d + 1, by go_num, by omega, _, _, C, rfl, HN2, HM.out⟩
              case measure => simp [intOf]; omega
            · have HN2 : Hid (Val.srch m (3 * b + (d + 1)) = (B, D, L)) := Lib.hid (by rw [HN.out, if_neg (fun h => h2 h.2)])
              go_wp2
              go_roundw
              case rel => exact ⟨d + 1, by go_num, by omega, B, D, L, rfl, HN2, hM⟩
              case measure => simp [intOf]; omega
          · have HN2 : Hid (Val.srch m (3 * b + (d + 1)) = (B, D, L)) := Lib.hid (by rw [HN.out, if_neg (fun h => h1 h.1)])
            go_wp2
            go_roundw
            case rel => exact ⟨d + 1, by go_num, by omega, B, D, L, rfl, HN2, hM⟩
            case measure => simp [intOf]; omega
        · obtain rfl : d = 3 := by omega
          go_wp2
          go_roundw
          case rel => exact ⟨b + 1, by go_num, by omega, B, D, L, rfl, Lib.hid (by have := HS.out; rw [show 3 * (b + 1) = 3 * b + 3 by omega]; exact this), hM⟩
          case measure => simp [intOf]; omega
    · obtain rfl : b = 7 := by omega
      obtain ⟨B, D, L, rfl, HS, hM⟩ := hL
      have HV : Hid (Val.gB m = B ∧ Val.gT m = D ∧ Val.gU m = L) := Lib.hid (by have := Val.srch_is hm; rw [HS.out] at this; simp only [Prod.mk.injEq] at this; omega)
      obtain ⟨r0, r1, r2, r3, f0, f1, f2, f3, c0, c1, c2, c3, g0, g1, g2, g3, hB⟩ := hM
      obtain ⟨m0, m1, m2, m3⟩ := put4_of (x := .int .i64 B) (y := .int .i64 D) (z := .int .i64 0) (u := .int .i64 0) r0 r1 r2 r3
      go_wp2
      exact bodyPost_ret (v := .tuple #[vl B D 0 0, .int .i64 L]) (by simp [results, Tryz.results79, go_sem, m0, m1, m2, m3]) rfl ⟨by rw [HV.out.1, HV.out.2.1, HV.out.2.2], put4_below hB (by omega)⟩
end Go.Proofs.YtejiifkenanodaaGreatDoor
