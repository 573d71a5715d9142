/-
  The contracts of the statements' own place, and of Meter put together.
-/
import Derived.Test.YtlodhfdikglgoaaMetI
import Derived.Deep.DeepCutAuto
import Derived.Deep.RegionHeld3
namespace Go.Proofs.Ytlodhfdikglgoaa
open Go.RowKit

/-- A ratio's block, somewhere. -/
def AtR (X Y : Int) (w0 : World) (p : Value) (wx : World) : Prop := ∃ A : Nat, p = .pointer (some ⟨A, 0, none⟩) ∧ wx.cell? ⟨A, 0, none⟩ = some (.int .i64 X) ∧ wx.cell? ⟨A, 1, none⟩ = some (.int .i64 Y) ∧ Below w0.heap.size w0 wx

set_option maxRecDepth 100000 in
set_option maxHeartbeats 4000000 in
theorem place_w (N D : Int) (p0 : Option Addr) (l0 c0 : Nat) (a o : Int) (w : World) (ia : Rat.I64 a) (io : Rat.I64 o) (e d M k DD X Y : Int) (HE : Hid (pickS o 12 = e)) (hd : IntKind.i64.wrap (1 + e) = d) (hM : IntKind.i64.wrap (N * d) = M) (M1 : 1 ≤ M) (M2 : M ≤ 2000001) (HK : Hid (pickS a M = k)) (hDD : IntKind.i64.wrap (D * d) = DD) (ik : Rat.I64 k) (iD : Rat.I64 DD) (HO : Hid (Rat.ofN k DD = X ∧ Rat.ofD k DD = Y ∧ Rat.ofE k DD = 0)) :
    Calls Try.prog 21 #[mt N D (.slice p0 l0 c0), .int .i64 a, .int .i64 o] w fun ed w' => ed = .returned (rt X Y) ∧ Below w.heap.size w w' := by
  have hB0 : Below w.heap.size w w := Below.refl _ _
  go_enter Try.func21, Try.ntmps21
  go_wp2_with fail
  have hs1 : Below w.heap.size w ((w.alloc (.cells #[.int .i64 N, .int .i64 D, .slice p0 l0 c0] 24)).alloc (.cells #[.int .i64 0, .int .i64 0] 26)) := by repeat (first | exact Below.refl _ _ | refine Below.alloc ?_ (by simp <;> omega) _)
  have c_m_0 : ((w.alloc (.cells #[.int .i64 N, .int .i64 D, .slice p0 l0 c0] 24)).alloc (.cells #[.int .i64 0, .int .i64 0] 26)).cell? ⟨w.heap.size, 0, none⟩ = some (.int .i64 N) := by go_simp
  have c_m_1 : ((w.alloc (.cells #[.int .i64 N, .int .i64 D, .slice p0 l0 c0] 24)).alloc (.cells #[.int .i64 0, .int .i64 0] 26)).cell? ⟨w.heap.size, 1, none⟩ = some (.int .i64 D) := by go_simp
  have c_m_2 : ((w.alloc (.cells #[.int .i64 N, .int .i64 D, .slice p0 l0 c0] 24)).alloc (.cells #[.int .i64 0, .int .i64 0] 26)).cell? ⟨w.heap.size, 2, none⟩ = some (.slice p0 l0 c0) := by go_simp
  have c_r_0 : ((w.alloc (.cells #[.int .i64 N, .int .i64 D, .slice p0 l0 c0] 24)).alloc (.cells #[.int .i64 0, .int .i64 0] 26)).cell? ⟨w.heap.size + 1, 0, none⟩ = some (.int .i64 0) := by go_simp
  have f_r_0 : ((w.alloc (.cells #[.int .i64 N, .int .i64 D, .slice p0 l0 c0] 24)).alloc (.cells #[.int .i64 0, .int .i64 0] 26)).frozen? ⟨w.heap.size + 1, 0, none⟩ = false := by go_simp
  have c_r_1 : ((w.alloc (.cells #[.int .i64 N, .int .i64 D, .slice p0 l0 c0] 24)).alloc (.cells #[.int .i64 0, .int .i64 0] 26)).cell? ⟨w.heap.size + 1, 1, none⟩ = some (.int .i64 0) := by go_simp
  have f_r_1 : ((w.alloc (.cells #[.int .i64 N, .int .i64 D, .slice p0 l0 c0] 24)).alloc (.cells #[.int .i64 0, .int .i64 0] 26)).frozen? ⟨w.heap.size + 1, 1, none⟩ = false := by go_simp
  have hB1 := below_two hB0 hs1
  clear hB0 hs1
  generalize ((w.alloc (.cells #[.int .i64 N, .int .i64 D, .slice p0 l0 c0] 24)).alloc (.cells #[.int .i64 0, .int .i64 0] 26)) = w1 at *
  have z_m := World.block_lt_of_cell? _ _ c_m_0
  have z_r := World.block_lt_of_cell? _ _ c_r_0
  refine (pick_is io (by decide) (by decide) HE.out _).mono ?_
  rintro ed wx ⟨rfl, rfl⟩
  have hBr : Below w1.heap.size w1 w1 := Below.refl _ _
  simp only at z_m z_r
  have hd' := hd
  go_upto_region 2 with fail
  clear hd hd'
  go_cut [8, 9] (fun p _ wx => AtR X Y w1 p wx)
  case first =>
    have RA : Hid (∀ u, Below (w1.alloc (.cells #[.int .i64 0, .int .i64 0] 26)).drew.heap.size (w1.alloc (.cells #[.int .i64 0, .int .i64 0] 26)).drew u → u.cell? ⟨w1.heap.size, 0, none⟩ = some (.int .i64 0) ∧ u.cell? ⟨w1.heap.size, 1, none⟩ = some (.int .i64 0) ∧ u.frozen? ⟨w1.heap.size, 0, none⟩ = false ∧ u.frozen? ⟨w1.heap.size, 1, none⟩ = false ∧ Below w1.heap.size w1 u) := Lib.hid (fun u hq => by
      have e0 : (w1.alloc (.cells #[.int .i64 0, .int .i64 0] 26)).drew.cell? ⟨w1.heap.size, 0, none⟩ = some (.int .i64 0) := cell_drew (by go_simp)
      have e1 : (w1.alloc (.cells #[.int .i64 0, .int .i64 0] 26)).drew.cell? ⟨w1.heap.size, 1, none⟩ = some (.int .i64 0) := cell_drew (by go_simp)
      exact ⟨cell_later hq e0, cell_later hq e1, frozen_later hq e0 (frozen_drew (by go_simp)), frozen_later hq e1 (frozen_drew (by go_simp)), below_two (alloc_below hBr).drew hq⟩)
    have RB : Hid (∀ u, Below w1.drew.heap.size w1.drew u → u.cell? ⟨w.heap.size, 0, none⟩ = some (.int .i64 N) ∧ u.cell? ⟨w.heap.size, 1, none⟩ = some (.int .i64 D) ∧ Below w1.heap.size w1 u) := Lib.hid (fun u hq => ⟨cell_later hq (cell_drew c_m_0), cell_later hq (cell_drew c_m_1), below_two hBr.drew hq⟩)
    clear c_m_2 c_r_0 c_r_1 f_r_0 f_r_1
    go_region_held3 (fun w' => w'.cell? ⟨w.heap.size, 0, none⟩ = some (.int .i64 N) ∧ w'.cell? ⟨w.heap.size, 1, none⟩ = some (.int .i64 D) ∧ Below w1.heap.size w1 w')
      (((try go_split_ands); refine ⟨?_, ?_, ?_⟩ <;> first | with_reducible assumption | (with_reducible refine cell_later hq ?_; with_reducible assumption) | (with_reducible refine below_two ?_ hq; with_reducible assumption) | (with_reducible refine alloc_cell ?_; with_reducible assumption) | (with_reducible refine alloc_below ?_; with_reducible assumption) | (with_reducible refine set_far ?_ (set_far ?_ ?_); omega; omega; with_reducible assumption) | (with_reducible refine put2_below ?_ ?_; with_reducible assumption; omega) | with_reducible exact cell_drew c_m_0 | with_reducible exact cell_drew c_m_1 | with_reducible exact hBr.drew | with_reducible exact cell_drew (alloc_cell c_m_0) | with_reducible exact cell_drew (alloc_cell c_m_1) | with_reducible exact (alloc_below hBr).drew))
      (first
        | (go_at_call 30; refine (pick_any a M _ ia M1 M2).mono ?_; rintro ed wx ⟨rfl, rfl⟩; rw [HK.out])
        | (go_at_call 29; first
            | (with_reducible refine (refOf_any k DD w1.drew ik iD).mono ?_; rintro ed u5 ⟨rfl, hq⟩; rw [HO.out.1, HO.out.2.1, HO.out.2.2]; obtain ⟨n_0, n_1, hb5⟩ := RB.out _ hq)
            | (with_reducible refine (refOf_any k DD (w1.alloc (.cells #[.int .i64 0, .int .i64 0] 26)).drew ik iD).mono ?_; rintro ed u5 ⟨rfl, hq⟩; rw [HO.out.1, HO.out.2.1, HO.out.2.2]; obtain ⟨r_0, r_1, f_0, f_1, hb5⟩ := RA.out _ hq)))
    all_goals (first
      | (go_wp2_with fail; go_meet; case rel => exact ⟨_, rfl, (put2_of r_0 r_1).1, (put2_of r_0 r_1).2, put2_below hb5 (by omega)⟩)
      | (go_wp2_with fail; go_meet; case rel => exact ⟨_, rfl, by go_simp, by go_simp, alloc_below hb5⟩))
  case rest =>
    obtain ⟨A1, rfl, x0, x1, hBx⟩ := hcut
    replace f_r_0 := frozen_later hBx c_r_0 f_r_0
    replace f_r_1 := frozen_later hBx c_r_1 f_r_1
    replace c_r_0 := cell_later hBx c_r_0
    replace c_r_1 := cell_later hBx c_r_1
    have hB2 := below_two hB1 hBx
    clear c_m_0 c_m_1 c_m_2 hBr hBx
    obtain ⟨m0, m1⟩ := put2_of (x := .int .i64 X) (y := .int .i64 Y) c_r_0 c_r_1
    go_wp2
    exact bodyPost_ret (v := rt X Y) (by simp [results, Try.results21, go_sem, m0, m1]) rfl ⟨rfl, put2_below hB2 (by omega)⟩

/-- The right meter of raw numbers; the place of raw numbers, in parts of DD. -/
def mkN (a : Int) : Int := 1 + pickS a 32
def mkD (b : Int) : Int := 2 ^ (pickS b 7).toNat
def mkS (o : Int) : Int := 1 + pickS o 12
def mkK (N a o : Int) : Int := pickS a (N * mkS o)
theorem mkN_b (a : Int) : 1 ≤ mkN a ∧ mkN a ≤ 32 := by have := pickS_bounds a (n := 32) (by decide); unfold mkN; omega
theorem mkS_b (o : Int) : 1 ≤ mkS o ∧ mkS o ≤ 12 := by have := pickS_bounds o (n := 12) (by decide); unfold mkS; omega
theorem mkD_ok (b : Int) : Met.okD (mkD b) = true := by
  obtain ⟨h0, h1⟩ := pickS_bounds b (n := 7) (by decide)
  unfold mkD
  generalize pickS b 7 = y at *
  obtain rfl | rfl | rfl | rfl | rfl | rfl | rfl : y = 0 ∨ y = 1 ∨ y = 2 ∨ y = 3 ∨ y = 4 ∨ y = 5 ∨ y = 6 := by omega
  all_goals decide
theorem mkD_b (b : Int) : 1 ≤ mkD b ∧ mkD b ≤ 64 := by have := (Met.okD_iff _).1 (mkD_ok b); omega
theorem mul_b {x y a b : Int} (hx : 1 ≤ x) (hxa : x ≤ a) (hy : 1 ≤ y) (hyb : y ≤ b) : 1 ≤ x * y ∧ x * y ≤ a * b := by
  have h1 : 1 * 1 ≤ x * y := Int.mul_le_mul hx hy (by omega) (by omega)
  have h2 : x * y ≤ a * b := Int.mul_le_mul hxa hyb (by omega) (by omega)
  omega
theorem mkK_b {N a o : Int} (h : 1 ≤ N) : 0 ≤ mkK N a o ∧ mkK N a o < N * mkS o := by
  obtain ⟨d1, d2⟩ := mkS_b o
  exact pickS_bounds a (mul_b h (Int.le_refl _) d1 (Int.le_refl _)).1
theorem meter_any (a b : Int) (v : Value) (gs : List Int) (w : World) (hI : Ints w v gs) (ia : Rat.I64 a) (ib : Rat.I64 b) (hgs : ∀ z ∈ gs, Rat.I64 z) (gr : Bool) :
    Calls Try.prog 11 #[mt a b v, .bool gr] w fun ed w' => (∃ u, ed = .returned (mt (mkN a) (mkD b) u) ∧ ∃ l, Ints w' u l ∧ Met.right (mkN a) (mkD b) l = true ∧ l.isEmpty = !gr) ∧ Below w.heap.size w w' := by
  obtain ⟨x0, x1⟩ := pickS_bounds a (n := 32) (by decide)
  obtain ⟨y0, y1⟩ := pickS_bounds b (n := 7) (by decide)
  obtain ⟨n1, n32⟩ := mkN_b a
  obtain ⟨d1, d64⟩ := mkD_b b
  have hN : IntKind.i64.wrap (1 + pickS a 32) = mkN a := IntWalk.i64_in _ (by omega)
  have hD : IntKind.i64.wrap (2 ^ (pickS b 7).toNat) = mkD b := IntWalk.i64_in _ (by unfold mkD at d1 d64; omega)
  have hd := mkD_ok b
  have hn : Met.okN (mkN a) = true := by unfold Met.okN; simp; omega
  cases gr
  · refine (meter_no a b v gs w hI ia ib _ _ _ _ (Lib.hid rfl) (Lib.hid rfl) y0 y1 hN hD n1).mono ?_
    rintro ed w' ⟨rfl, hb⟩
    exact ⟨⟨_, rfl, [], Ints.none _, by unfold Met.right; rw [hn, hd]; rfl, rfl⟩, hb⟩
  · refine (meter_yes a b v gs w hI ia ib _ _ _ _ (Lib.hid rfl) (Lib.hid rfl) y0 y1 hN hD n1 n32 (Lib.hid hgs)).mono ?_
    rintro ed w' ⟨⟨u, rfl, l, hi, hp, ht⟩, hb⟩
    have hne : l ≠ [] := by rintro rfl; simp [Met.tot] at ht; omega
    exact ⟨⟨u, rfl, l, hi, by unfold Met.right; rw [hn, hd, (Met.okG_iff hne).2 ⟨hp, ht⟩]; rfl, by cases l <;> simp at hne ⊢⟩, hb⟩
theorem place_any (N D : Int) (v : Value) (gs : List Int) (a o : Int) (w : World) (hI : Ints w v gs) (hr : Met.right N D gs = true) (ia : Rat.I64 a) (io : Rat.I64 o) :
    Calls Try.prog 21 #[mt N D v, .int .i64 a, .int .i64 o] w fun ed w' => ed = .returned (rp (Met.of (mkK N a o) (D * mkS o))) ∧ Below w.heap.size w w' := by
  have hR := Met.isRight hr
  have n1 := hR.n1
  have n32 := hR.n32
  have d1 := hR.d1
  have d64 := hR.d64
  obtain ⟨p, cap, rfl, _, _⟩ := hI
  obtain ⟨s1, s2⟩ := mkS_b o
  obtain ⟨e0, e1⟩ := pickS_bounds o (n := 12) (by decide)
  obtain ⟨m1, m2⟩ := mul_b n1 n32 s1 s2
  obtain ⟨q1, q2⟩ := mul_b d1 d64 s1 s2
  obtain ⟨k0, k1⟩ := mkK_b (N := N) (a := a) (o := o) n1
  exact place_w N D p gs.length cap a o w ia io (pickS o 12) (mkS o) (N * mkS o) (mkK N a o) (D * mkS o) _ _ (Lib.hid rfl) (IntWalk.i64_in _ (by omega)) (IntWalk.i64_in _ (by omega)) m1 (by omega) (Lib.hid rfl) (IntWalk.i64_in _ (by omega)) (i64_small (by omega) (by omega)) (i64_small (by omega) (by omega)) (Lib.hid ⟨rfl, rfl, Met.of_small (by omega) (by omega) (by omega) (by omega)⟩)
theorem place_is {N D a o : Int} {gs : List Int} (hr : Met.right N D gs = true) : Met.Is (Met.of (mkK N a o) (D * mkS o)) (mkK N a o) (D * mkS o) := by
  have hR := Met.isRight hr
  have n1 := hR.n1
  have n32 := hR.n32
  have d1 := hR.d1
  have d64 := hR.d64
  obtain ⟨s1, s2⟩ := mkS_b o
  obtain ⟨m1, m2⟩ := mul_b n1 n32 s1 s2
  obtain ⟨q1, q2⟩ := mul_b d1 d64 s1 s2
  obtain ⟨k0, k1⟩ := mkK_b (N := N) (a := a) (o := o) n1
  exact Met.is_of q1 (by omega) (by omega) (by omega)
end Go.Proofs.Ytlodhfdikglgoaa
