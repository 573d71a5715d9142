/-
  PitchTells holds: the law's walk.
-/
import Derived.Test.YtoopchnncjfjoaaDoorPitI
import Derived.Test.YtoopchnncjfjoaaDoorPitRow
import Derived.Test.YtoopchnncjfjoaaDoorPitRefB
import Derived.Test.YtoopchnncjfjoaaDoorPitRefD
namespace Go.Proofs.YtoopchnncjfjoaaDoor
open Go.RowKit

theorem upV_form (x : Option (Int × Int × Int)) : ∃ a b c e, upV x = pv a b c e := by
  cases x with
  | none => exact ⟨_, _, _, _, rfl⟩
  | some q => exact ⟨_, _, _, _, rfl⟩
theorem rdV_form (x : Option (Int × Int × Int)) : ∃ a b c e, rdV x = pv a b c e := by
  cases x with
  | none => exact ⟨_, _, _, _, rfl⟩
  | some q => exact ⟨_, _, _, _, rfl⟩
theorem bt_form (r : Bool) (s a o t b p : Int) : ∃ x y e, btS r s o t p = x ∧ btH r s a o t b p = y ∧ errP r = e := ⟨_, _, _, rfl, rfl, rfl⟩
/-- Cells and what they hold. -/
def HeldL (L : List (Addr × Value)) (wr : World) : Prop := ∀ q ∈ L, wr.cell? q.1 = some q.2
theorem HeldL.later {L : List (Addr × Value)} {wr wx : World} (h : HeldL L wr) (hb : Below wr.heap.size wr wx) : HeldL L wx := fun q hq => cell_later hb (h q hq)
theorem HeldL.get {L : List (Addr × Value)} {wr : World} (h : HeldL L wr) (k : Nat) {a : Addr} {v : Value} (hk : L[k]? = some (a, v)) : wr.cell? a = some v := h (a, v) (List.mem_of_getElem? hk)
theorem HeldL.drew {L : List (Addr × Value)} {wr : World} (h : HeldL L wr) : HeldL L wr.drew := h
theorem HeldL.alloc {L : List (Addr × Value)} {wr : World} {o : Obj} (h : HeldL L wr) : HeldL L (wr.alloc o) := fun q hq => alloc_cell (h q hq)
theorem HeldL.both {L M : List (Addr × Value)} {wr : World} (h : HeldL L wr) (h' : HeldL M wr) : HeldL (L ++ M) wr := fun q hq => by
  rcases List.mem_append.1 hq with hq | hq
  · exact h q hq
  · exact h' q hq
theorem HeldL.left {L M : List (Addr × Value)} {wr : World} (h : HeldL (L ++ M) wr) : HeldL L wr := fun q hq => h q (List.mem_append.2 (Or.inl hq))
def I (b o : Nat) (x : Int) : Addr × Value := (⟨b, o, none⟩, .int .i64 x)
def TRel (w : World) (L : List (Addr × Value)) (i : Value) (wr : World) : Prop := ∃ idx : Int, i = .int .i64 idx ∧ 0 ≤ idx ∧ idx ≤ 2 ∧ HeldL L wr ∧ Below w.heap.size w wr
def L0 (n Bs : Nat) (b1 b2 b3 y1 y2 a1 a2 a3 s b o : Int) : List (Addr × Value) := [I (n + 1) 0 b1, I (n + 1) 1 b2, I (n + 1) 2 b3, I (n + 1 + 1) 0 y1, I (n + 1 + 1) 1 y2, I Bs 0 a1, I Bs 1 a2, I Bs 2 a3, I Bs 3 s, I Bs 4 b, I Bs 5 o]

set_option maxRecDepth 100000 in
set_option maxHeartbeats 32000000 in
theorem tells_w (a1 a2 a3 b1 b2 b3 y1 y2 : Int) (x : ByteArray) (s b o t c p : Int) (w : World) (hR : Ready w) (HA : Hid (∀ w, Calls Tryd.prog 13 #[pt a1 a2 a3] w fun e w' => e = .returned (pt s b o) ∧ Below w.heap.size w w')) (HB : Hid (∀ w, Calls Tryd.prog 13 #[pt b1 b2 b3] w fun e w' => e = .returned (pt t c p) ∧ Below w.heap.size w w')) (F : ByteArray) (m : Int) (hm : min (x.size : Int) 20 = m) (m0 : 0 ≤ m) (m1 : m ≤ (x.size : Int)) (hF : x.extract 0 m.toNat = F) (hFs : F.size ≤ 1000) (j1 : Pit.I64 y1) (j2 : Pit.I64 y2) (k1 k2 u1 u2 : Int) (K1 : Hid (pickS y1 41 = k1)) (K2 : Hid (pickS y2 81 = k2)) (e1 : IntKind.i64.wrap (k1 - 20) = u1) (e2 : IntKind.i64.wrap (k2 - 40) = u2) :
    Calls Tryd.prog 3 #[pt a1 a2 a3, pt b1 b2 b3, iv y1 y2, .string x] w fun e w' => e = .returned (.bool true) ∧ Below w.heap.size w w' := by
  have hgP := guardP
  have hgI := guardI
  have heP := eql_pt
  have heI := eql_iv
  have hnP := neq_pt
  have hsP := eqP_self
  have hsI := eqI_self
  have hnI := neq_iv
  have hB0 : Below w.heap.size w w := Below.refl _ _
  go_enter Tryd.func3, Tryd.ntmps3
  go_wp2_with fail
  have hR' := hR.below (((hB0.alloc hB0.size (.cells #[.int .i64 a1, .int .i64 a2, .int .i64 a3] 23)).alloc (hB0.alloc hB0.size (.cells #[.int .i64 a1, .int .i64 a2, .int .i64 a3] 23)).size (.cells #[.int .i64 b1, .int .i64 b2, .int .i64 b3] 23)).alloc ((hB0.alloc hB0.size (.cells #[.int .i64 a1, .int .i64 a2, .int .i64 a3] 23)).alloc (hB0.alloc hB0.size (.cells #[.int .i64 a1, .int .i64 a2, .int .i64 a3] 23)).size (.cells #[.int .i64 b1, .int .i64 b2, .int .i64 b3] 23)).size (.cells #[.int .i64 y1, .int .i64 y2] 25))
  refine (awake_any _ hR').mono ?_
  rintro e w1 ⟨rfl, hb1⟩
  clear hR'
  have hs1 : Below w.heap.size w w1 := Below.trans (by repeat (first | exact Below.refl _ _ | refine Below.alloc ?_ (by simp <;> omega) _)) (hb1.mono (by simp <;> omega))
  have c_a_0 : w1.cell? ⟨w.heap.size, 0, none⟩ = some (.int .i64 a1) := (hb1.cell (by simp <;> omega)).trans (by go_simp)
  have c_a_1 : w1.cell? ⟨w.heap.size, 1, none⟩ = some (.int .i64 a2) := (hb1.cell (by simp <;> omega)).trans (by go_simp)
  have c_a_2 : w1.cell? ⟨w.heap.size, 2, none⟩ = some (.int .i64 a3) := (hb1.cell (by simp <;> omega)).trans (by go_simp)
  have c_b_0 : w1.cell? ⟨w.heap.size + 1, 0, none⟩ = some (.int .i64 b1) := (hb1.cell (by simp <;> omega)).trans (by go_simp)
  have c_b_1 : w1.cell? ⟨w.heap.size + 1, 1, none⟩ = some (.int .i64 b2) := (hb1.cell (by simp <;> omega)).trans (by go_simp)
  have c_b_2 : w1.cell? ⟨w.heap.size + 1, 2, none⟩ = some (.int .i64 b3) := (hb1.cell (by simp <;> omega)).trans (by go_simp)
  have c_by_0 : w1.cell? ⟨w.heap.size + 1 + 1, 0, none⟩ = some (.int .i64 y1) := (hb1.cell (by simp <;> omega)).trans (by go_simp)
  have c_by_1 : w1.cell? ⟨w.heap.size + 1 + 1, 1, none⟩ = some (.int .i64 y2) := (hb1.cell (by simp <;> omega)).trans (by go_simp)
  have z_a := World.block_lt_of_cell? _ _ c_a_0
  have z_b := World.block_lt_of_cell? _ _ c_b_0
  have z_by := World.block_lt_of_cell? _ _ c_by_0
  have hB1 := below_two hB0 hs1
  clear hB0 hs1 hb1
  go_wp2_with fail
  go_region_held3 (fun w' => w'.cell? ⟨w.heap.size, 0, none⟩ = some (.int .i64 a1) ∧ w'.cell? ⟨w.heap.size, 1, none⟩ = some (.int .i64 a2) ∧ w'.cell? ⟨w.heap.size, 2, none⟩ = some (.int .i64 a3) ∧ w'.cell? ⟨w.heap.size + 1, 0, none⟩ = some (.int .i64 b1) ∧ w'.cell? ⟨w.heap.size + 1, 1, none⟩ = some (.int .i64 b2) ∧ w'.cell? ⟨w.heap.size + 1, 2, none⟩ = some (.int .i64 b3) ∧ w'.cell? ⟨w.heap.size + 1 + 1, 0, none⟩ = some (.int .i64 y1) ∧ w'.cell? ⟨w.heap.size + 1 + 1, 1, none⟩ = some (.int .i64 y2) ∧ Below w.heap.size w w')
    (((try go_split_ands); refine ⟨?_, ?_, ?_, ?_, ?_, ?_, ?_, ?_, ?_⟩ <;> first | with_reducible assumption | (with_reducible refine cell_later hq ?_; with_reducible assumption) | (with_reducible refine below_two ?_ hq; with_reducible assumption) | (with_reducible refine alloc_cell ?_; with_reducible assumption) | (with_reducible refine alloc_below ?_; with_reducible assumption) | with_reducible exact cell_drew c_a_0 | with_reducible exact cell_drew c_a_1 | with_reducible exact cell_drew c_a_2 | with_reducible exact cell_drew c_b_0 | with_reducible exact cell_drew c_b_1 | with_reducible exact cell_drew c_b_2 | with_reducible exact cell_drew c_by_0 | with_reducible exact cell_drew c_by_1 | with_reducible exact hB1.drew))
    (first
      | (go_at_call 13; refine (HA.out _).mono ?_; rintro e w2 ⟨rfl, hq⟩))
  rename_i hS
  clear c_a_0 c_a_1 c_a_2 c_b_0 c_b_1 c_b_2 c_by_0 c_by_1 hB1 z_a z_b z_by
  obtain ⟨c_a_0, c_a_1, c_a_2, c_b_0, c_b_1, c_b_2, c_by_0, c_by_1, hB2⟩ := hS
  have z_a := World.block_lt_of_cell? _ _ c_a_0
  have z_b := World.block_lt_of_cell? _ _ c_b_0
  have z_by := World.block_lt_of_cell? _ _ c_by_0
  go_wp2_with fail
  have c_sl_0 : (w2.alloc (.cells #[.int .i64 a1, .int .i64 a2, .int .i64 a3, .int .i64 s, .int .i64 b, .int .i64 o] 23)).cell? ⟨w2.heap.size, 0, none⟩ = some (.int .i64 a1) := by go_simp
  have c_sl_1 : (w2.alloc (.cells #[.int .i64 a1, .int .i64 a2, .int .i64 a3, .int .i64 s, .int .i64 b, .int .i64 o] 23)).cell? ⟨w2.heap.size, 1, none⟩ = some (.int .i64 a2) := by go_simp
  have c_sl_2 : (w2.alloc (.cells #[.int .i64 a1, .int .i64 a2, .int .i64 a3, .int .i64 s, .int .i64 b, .int .i64 o] 23)).cell? ⟨w2.heap.size, 2, none⟩ = some (.int .i64 a3) := by go_simp
  have c_sl_3 : (w2.alloc (.cells #[.int .i64 a1, .int .i64 a2, .int .i64 a3, .int .i64 s, .int .i64 b, .int .i64 o] 23)).cell? ⟨w2.heap.size, 3, none⟩ = some (.int .i64 s) := by go_simp
  have c_sl_4 : (w2.alloc (.cells #[.int .i64 a1, .int .i64 a2, .int .i64 a3, .int .i64 s, .int .i64 b, .int .i64 o] 23)).cell? ⟨w2.heap.size, 4, none⟩ = some (.int .i64 b) := by go_simp
  have c_sl_5 : (w2.alloc (.cells #[.int .i64 a1, .int .i64 a2, .int .i64 a3, .int .i64 s, .int .i64 b, .int .i64 o] 23)).cell? ⟨w2.heap.size, 5, none⟩ = some (.int .i64 o) := by go_simp
  generalize w2.alloc (.cells #[.int .i64 a1, .int .i64 a2, .int .i64 a3, .int .i64 s, .int .i64 b, .int .i64 o] 23) = w3 at *
  generalize w2.heap.size = Bs at *
  have HK : Hid (HeldL (L0 w.heap.size Bs b1 b2 b3 y1 y2 a1 a2 a3 s b o) w3) := Lib.hid (by
    intro q hq
    simp only [L0, I, List.mem_cons, List.not_mem_nil, or_false] at hq
    rcases hq with rfl | rfl | rfl | rfl | rfl | rfl | rfl | rfl | rfl | rfl | rfl <;> assumption)
  clear c_a_0 c_a_1 c_a_2 c_b_0 c_b_1 c_b_2 c_by_0 c_by_1 z_a z_b z_by c_sl_0 c_sl_1 c_sl_2 c_sl_3 c_sl_4 c_sl_5
  go_loopw [52] (fun i wr => TRel w (L0 w.heap.size Bs b1 b2 b3 y1 y2 a1 a2 a3 s b o) i wr) (fun i _ => (2 - intOf i).toNat)
  case atStart => exact ⟨0, rfl, by omega, by omega, HK.out, hB2⟩
  case round =>
    clear HK hB2
    obtain ⟨idx, rfl, x0, x1, hK, hB⟩ := hrel
    by_cases hlt : idx < 2
    · obtain ⟨z1, z2, z3, off, hoff, g0, g1, g2⟩ : ∃ (z1 z2 z3 : Int) (off : Nat), idx.toNat * 3 = off ∧ wr.cell? ⟨Bs, off, none⟩ = some (.int .i64 z1) ∧ wr.cell? ⟨Bs, off + 1, none⟩ = some (.int .i64 z2) ∧ wr.cell? ⟨Bs, off + 2, none⟩ = some (.int .i64 z3) := by
        obtain rfl | rfl : idx = 0 ∨ idx = 1 := by omega
        · exact ⟨_, _, _, 0, rfl, hK.get 5 rfl, hK.get 6 rfl, hK.get 7 rfl⟩
        · exact ⟨_, _, _, 3, rfl, hK.get 8 rfl, hK.get 9 rfl, hK.get 10 rfl⟩
      have HK := Lib.hid hK
      clear hK
      have hB200 := hB
      clear hB
      obtain ⟨n1, hn1⟩ : ∃ v, onlyR (Pit.right z1 z2 z3) (Pit.num z1 z2 z3) = v := ⟨_, rfl⟩
      have Hn1 := Lib.hid hn1
      clear hn1
      obtain ⟨n2, hn2⟩ : ∃ v, errP (Pit.right z1 z2 z3) = v := ⟨_, rfl⟩
      have Hn2 := Lib.hid hn2
      clear hn2
      obtain ⟨n3, hn3⟩ : ∃ v, onlyR (Pit.right z1 z2 z3) (Pit.lin z1 z3) = v := ⟨_, rfl⟩
      have Hn3 := Lib.hid hn3
      clear hn3
      obtain ⟨n4, hn4⟩ : ∃ v, txtV (Pit.right z1 z2 z3) z1 z2 z3 = v := ⟨_, rfl⟩
      have Hn4 := Lib.hid hn4
      clear hn4
      obtain ⟨n5, hn5⟩ : ∃ v, Pit.right z1 z2 z3 = v := ⟨_, rfl⟩
      have Hn5 := Lib.hid hn5
      clear hn5
      go_wp2_with fail
      have hR' := hR.below (hB200.alloc hB200.size (.cells #[.int .i64 z1, .int .i64 z2, .int .i64 z3] 23))
      refine (numberE _ _ _ _ hR').mono ?_
      rintro e w201 ⟨rfl, hb201⟩
      clear hR'
      have hs201 : Below wr.heap.size wr w201 := Below.trans (by repeat (first | exact Below.refl _ _ | refine Below.alloc ?_ (by simp <;> omega) _)) (hb201.mono (by simp <;> omega))
      replace HK := Lib.hid (HK.out.later hs201)
      have c_x_0 : w201.cell? ⟨wr.heap.size, 0, none⟩ = some (.int .i64 z1) := (hb201.cell (by simp <;> omega)).trans (by go_simp)
      have c_x_1 : w201.cell? ⟨wr.heap.size, 1, none⟩ = some (.int .i64 z2) := (hb201.cell (by simp <;> omega)).trans (by go_simp)
      have c_x_2 : w201.cell? ⟨wr.heap.size, 2, none⟩ = some (.int .i64 z3) := (hb201.cell (by simp <;> omega)).trans (by go_simp)
      have z_x := World.block_lt_of_cell? _ _ c_x_0
      have hB201 := below_two hB200 hs201
      clear hB200 hs201 hb201
      rw [Hn1.out, Hn2.out]
      clear g0 g1 g2
      generalize wr.heap.size = Bx at *
      go_wp2_with fail
      have hR' := hR.below hB201
      refine (refNumber_any _ _ _ _).mono ?_
      rintro e w202 ⟨rfl, hb202⟩
      clear hR'
      have hs202 := hb202
      replace HK := Lib.hid (HK.out.later hs202)
      replace c_x_0 := cell_later hs202 c_x_0
      replace c_x_1 := cell_later hs202 c_x_1
      replace c_x_2 := cell_later hs202 c_x_2
      clear z_x
      have z_x := World.block_lt_of_cell? _ _ c_x_0
      have hB202 := below_two hB201 hs202
      clear hB201 hs202
      rw [Hn1.out, Hn2.out]
      go_wp2_with fail
      have hR' := hR.below hB202
      refine (lineE _ _ _ _ hR').mono ?_
      rintro e w203 ⟨rfl, hb203⟩
      clear hR'
      have hs203 := hb203
      replace HK := Lib.hid (HK.out.later hs203)
      replace c_x_0 := cell_later hs203 c_x_0
      replace c_x_1 := cell_later hs203 c_x_1
      replace c_x_2 := cell_later hs203 c_x_2
      clear z_x
      have z_x := World.block_lt_of_cell? _ _ c_x_0
      have hB203 := below_two hB202 hs203
      clear hB202 hs203
      rw [Hn3.out, Hn2.out]
      go_wp2_with fail
      have hR' := hR.below hB203
      refine (refLine_any _ _ _ _).mono ?_
      rintro e w204 ⟨rfl, hb204⟩
      clear hR'
      have hs204 := hb204
      replace HK := Lib.hid (HK.out.later hs204)
      replace c_x_0 := cell_later hs204 c_x_0
      replace c_x_1 := cell_later hs204 c_x_1
      replace c_x_2 := cell_later hs204 c_x_2
      clear z_x
      have z_x := World.block_lt_of_cell? _ _ c_x_0
      have hB204 := below_two hB203 hs204
      clear hB203 hs204
      rw [Hn3.out, Hn2.out]
      go_wp2_with fail
      have hR' := hR.below hB204
      refine (text_any _ _ _ _ hR').mono ?_
      rintro e w205 ⟨rfl, hb205⟩
      clear hR'
      have hs205 := hb205
      replace HK := Lib.hid (HK.out.later hs205)
      replace c_x_0 := cell_later hs205 c_x_0
      replace c_x_1 := cell_later hs205 c_x_1
      replace c_x_2 := cell_later hs205 c_x_2
      clear z_x
      have z_x := World.block_lt_of_cell? _ _ c_x_0
      have hB205 := below_two hB204 hs205
      clear hB204 hs205
      rw [Hn4.out, Hn2.out]
      go_wp2_with fail
      have hR' := hR.below hB205
      refine (refText_any _ _ _ _).mono ?_
      rintro e w206 ⟨rfl, hb206⟩
      clear hR'
      have hs206 := hb206
      replace HK := Lib.hid (HK.out.later hs206)
      replace c_x_0 := cell_later hs206 c_x_0
      replace c_x_1 := cell_later hs206 c_x_1
      replace c_x_2 := cell_later hs206 c_x_2
      clear z_x
      have z_x := World.block_lt_of_cell? _ _ c_x_0
      have hB206 := below_two hB205 hs206
      clear hB205 hs206
      rw [Hn4.out, Hn2.out]
      go_wp2_with fail
      have QB : Hid (∀ d os, Below w.heap.size w (Go.Sort.grow (redrawn w206 d) os)) := Lib.hid (fun d os => below_two hB206 (below_regrown w206 d os))
      have g_c_x_0 := fun d os => cell_regrown c_x_0 d os
      have g_c_x_1 := fun d os => cell_regrown c_x_1 d os
      have g_c_x_2 := fun d os => cell_regrown c_x_2 d os
      have q0 : Hid (∀ d os, Calls Tryd.prog 20 #[pt z1 z2 z3] (Go.Sort.grow (redrawn w206 d) os) fun e w'' => e = .returned (.bool n5) ∧ ∃ p : Regrown, w'' = Go.Sort.grow (redrawn w206 p.d) p.os) := Lib.hid (fun d os => Calls.regrown_of (by have h := right_any z1 z2 z3 _ (hR.below (QB.out d os)); rw [Hn5.out] at h; exact h))
      have q1 : Hid (∀ d os, Calls Tryd.prog 21 #[pt z1 z2 z3] (Go.Sort.grow (redrawn w206 d) os) fun e w'' => e = .returned (.bool n5) ∧ ∃ p : Regrown, w'' = Go.Sort.grow (redrawn w206 p.d) p.os) := Lib.hid (fun d os => Calls.regrown_of (by have h := refRight_any z1 z2 z3 (Go.Sort.grow (redrawn w206 d) os); rw [Hn5.out] at h; exact h))
      refine wp_region_quiet_below (by kernel_rfl) (by kernel_rfl) ?_
      repeat (quiet_step (first | exact q0.out _ _ | exact q1.out _ _))
      refine wpQuiet_nil ?_
      intro _ hw'
      obtain ⟨⟨dq, osq⟩, hw''⟩ := hw'
      subst hw''
      replace HK := Lib.hid (HK.out.later (below_regrown w206 dq osq))
      replace c_x_0 := g_c_x_0 dq osq
      clear g_c_x_0
      replace c_x_1 := g_c_x_1 dq osq
      clear g_c_x_1
      replace c_x_2 := g_c_x_2 dq osq
      clear g_c_x_2
      clear q0
      clear q1
      have hB207 := QB.out dq osq
      clear QB hB206 z_x
      generalize Go.Sort.grow (redrawn w206 dq) osq = w207 at *
      have z_x := World.block_lt_of_cell? _ _ c_x_0
      have c_by_0 := HK.out.get 3 rfl
      have c_by_1 := HK.out.get 4 rfl
      go_wp2_with fail
      go_region_held3 (fun w' => w'.cell? ⟨Bx, 0, none⟩ = some (.int .i64 z1) ∧ w'.cell? ⟨Bx, 1, none⟩ = some (.int .i64 z2) ∧ w'.cell? ⟨Bx, 2, none⟩ = some (.int .i64 z3) ∧ w'.cell? ⟨w.heap.size + 1 + 1, 0, none⟩ = some (.int .i64 y1) ∧ w'.cell? ⟨w.heap.size + 1 + 1, 1, none⟩ = some (.int .i64 y2) ∧ HeldL (L0 w.heap.size Bs b1 b2 b3 y1 y2 a1 a2 a3 s b o) w' ∧ Below w.heap.size w w')
        (((try go_split_ands); refine ⟨?_, ?_, ?_, ?_, ?_, ?_, ?_⟩ <;> first | with_reducible assumption | (with_reducible refine cell_later hq ?_; with_reducible assumption) | (with_reducible refine below_two ?_ hq; with_reducible assumption) | (with_reducible refine HeldL.later ?_ hq; with_reducible assumption) | (with_reducible refine HeldL.alloc ?_; with_reducible assumption) | (with_reducible refine cell_drew (alloc_cell ?_); with_reducible assumption) | (with_reducible refine Below.drew (alloc_below ?_); with_reducible assumption) | (with_reducible refine HeldL.drew (HeldL.alloc ?_); exact HK.out) | with_reducible exact cell_drew c_x_0 | with_reducible exact cell_drew c_x_1 | with_reducible exact cell_drew c_x_2 | with_reducible exact cell_drew c_by_0 | with_reducible exact cell_drew c_by_1 | with_reducible exact HeldL.drew HK.out | with_reducible exact hB207.drew))
        (first
          | (go_at_call 22; refine (pick_any _ _ _ ?_ ?_ ?_).mono ?_; (first | exact j1 | exact j2); decide; decide; rintro e w208 ⟨rfl, rfl⟩; (first | rw [K1.out] | rw [K2.out])))
      have hs208 : Below w207.heap.size w207 (w207.alloc (.cells #[.int .i64 y1, .int .i64 y2, .int .i64 u1, .int .i64 u2] 25)).drew := ((Below.refl _ _).alloc (Nat.le_refl _) _).drew
      replace c_x_0 := cell_later hs208 c_x_0
      replace c_x_1 := cell_later hs208 c_x_1
      replace c_x_2 := cell_later hs208 c_x_2
      have c_is_0 : (w207.alloc (.cells #[.int .i64 y1, .int .i64 y2, .int .i64 u1, .int .i64 u2] 25)).drew.cell? ⟨w207.heap.size, 0, none⟩ = some (.int .i64 y1) := by go_simp
      have c_is_1 : (w207.alloc (.cells #[.int .i64 y1, .int .i64 y2, .int .i64 u1, .int .i64 u2] 25)).drew.cell? ⟨w207.heap.size, 1, none⟩ = some (.int .i64 y2) := by go_simp
      have c_is_2 : (w207.alloc (.cells #[.int .i64 y1, .int .i64 y2, .int .i64 u1, .int .i64 u2] 25)).drew.cell? ⟨w207.heap.size, 2, none⟩ = some (.int .i64 u1) := by go_simp
      have c_is_3 : (w207.alloc (.cells #[.int .i64 y1, .int .i64 y2, .int .i64 u1, .int .i64 u2] 25)).drew.cell? ⟨w207.heap.size, 3, none⟩ = some (.int .i64 u2) := by go_simp
      replace HK := Lib.hid (HK.out.later hs208)
      have hB208 := below_two hB207 hs208
      clear hB207 hs208 c_by_0 c_by_1 z_x
      go_wp2_with fail
      generalize (w207.alloc (.cells #[.int .i64 y1, .int .i64 y2, .int .i64 u1, .int .i64 u2] 25)).drew = w208 at *
      generalize w207.heap.size = Bi at *
      have HK1 : Hid (HeldL (L0 w.heap.size Bs b1 b2 b3 y1 y2 a1 a2 a3 s b o ++ [I Bx 0 z1, I Bx 1 z2, I Bx 2 z3, I Bi 0 y1, I Bi 1 y2, I Bi 2 u1, I Bi 3 u2]) w208) := Lib.hid (HK.out.both (by
        intro q hq
        simp only [I, List.mem_cons, List.not_mem_nil, or_false] at hq
        rcases hq with rfl | rfl | rfl | rfl | rfl | rfl | rfl <;> assumption))
      clear HK c_x_0 c_x_1 c_x_2 c_is_0 c_is_1 c_is_2 c_is_3
      go_loopw [133] (fun i wr => TRel w (L0 w.heap.size Bs b1 b2 b3 y1 y2 a1 a2 a3 s b o ++ [I Bx 0 z1, I Bx 1 z2, I Bx 2 z3, I Bi 0 y1, I Bi 1 y2, I Bi 2 u1, I Bi 3 u2]) i wr) (fun i _ => (2 - intOf i).toNat)
      case atStart => exact ⟨0, rfl, by omega, by omega, HK1.out, hB208⟩
      case round =>
        clear HK1 hB208
        obtain ⟨idy, rfl, t0, t1, hK1, hB300⟩ := hrel
        have c_x_0 := hK1.get 11 rfl
        have c_x_1 := hK1.get 12 rfl
        have c_x_2 := hK1.get 13 rfl
        by_cases hly : idy < 2
        · obtain ⟨d1, d2, ofy, hofy, g0, g1⟩ : ∃ (d1 d2 : Int) (off : Nat), idy.toNat * 2 = off ∧ wr.cell? ⟨Bi, off, none⟩ = some (.int .i64 d1) ∧ wr.cell? ⟨Bi, off + 1, none⟩ = some (.int .i64 d2) := by
            obtain rfl | rfl : idy = 0 ∨ idy = 1 := by omega
            · exact ⟨_, _, 0, rfl, hK1.get 14 rfl, hK1.get 15 rfl⟩
            · exact ⟨_, _, 2, rfl, hK1.get 16 rfl, hK1.get 17 rfl⟩
          have HK1 := Lib.hid hK1
          clear hK1
          obtain ⟨v1, v2, v3, v4, hv⟩ := upV_form (Pit.up z1 z2 z3 d1 d2)
          have HV := Lib.hid hv
          clear hv
          have z_x := World.block_lt_of_cell? _ _ c_x_0
          go_wp2_with fail
          have hR' := hR.below (hB300.alloc hB300.size (.cells #[.int .i64 d1, .int .i64 d2] 25))
          refine (up_any _ _ _ _ _ _ hR').mono ?_
          rintro e w301 ⟨rfl, hb301⟩
          clear hR'
          have hs301 : Below wr.heap.size wr w301 := Below.trans (by repeat (first | exact Below.refl _ _ | refine Below.alloc ?_ (by simp <;> omega) _)) (hb301.mono (by simp <;> omega))
          replace HK1 := Lib.hid (HK1.out.later hs301)
          replace c_x_0 := cell_later hs301 c_x_0
          replace c_x_1 := cell_later hs301 c_x_1
          replace c_x_2 := cell_later hs301 c_x_2
          have c_y_0 : w301.cell? ⟨wr.heap.size, 0, none⟩ = some (.int .i64 d1) := (hb301.cell (by simp <;> omega)).trans (by go_simp)
          have c_y_1 : w301.cell? ⟨wr.heap.size, 1, none⟩ = some (.int .i64 d2) := (hb301.cell (by simp <;> omega)).trans (by go_simp)
          clear z_x
          have z_x := World.block_lt_of_cell? _ _ c_x_0
          have z_y := World.block_lt_of_cell? _ _ c_y_0
          have hB301 := below_two hB300 hs301
          clear hB300 hs301 hb301
          rw [HV.out]
          clear g0 g1
          go_wp2_with fail
          have hR' := hR.below (hB301.alloc hB301.size (.cells #[.int .i64 v1, .int .i64 v2, .int .i64 v3] 23))
          refine (refUp_any _ _ _ _ _ _).mono ?_
          rintro e w302 ⟨rfl, hb302⟩
          clear hR'
          have hs302 : Below w301.heap.size w301 w302 := Below.trans (by repeat (first | exact Below.refl _ _ | refine Below.alloc ?_ (by simp <;> omega) _)) (hb302.mono (by simp <;> omega))
          replace HK1 := Lib.hid (HK1.out.later hs302)
          replace c_x_0 := cell_later hs302 c_x_0
          replace c_x_1 := cell_later hs302 c_x_1
          replace c_x_2 := cell_later hs302 c_x_2
          replace c_y_0 := cell_later hs302 c_y_0
          replace c_y_1 := cell_later hs302 c_y_1
          have c_p_0 : w302.cell? ⟨w301.heap.size, 0, none⟩ = some (.int .i64 v1) := (hb302.cell (by simp <;> omega)).trans (by go_simp)
          have c_p_1 : w302.cell? ⟨w301.heap.size, 1, none⟩ = some (.int .i64 v2) := (hb302.cell (by simp <;> omega)).trans (by go_simp)
          have c_p_2 : w302.cell? ⟨w301.heap.size, 2, none⟩ = some (.int .i64 v3) := (hb302.cell (by simp <;> omega)).trans (by go_simp)
          have z_p := World.block_lt_of_cell? _ _ c_p_0
          clear z_x
          have z_x := World.block_lt_of_cell? _ _ c_x_0
          clear z_y
          have z_y := World.block_lt_of_cell? _ _ c_y_0
          have hB302 := below_two hB301 hs302
          clear hB301 hs302 hb302
          rw [HV.out]
          clear c_x_0 c_x_1 c_x_2
          go_wp2
          exact ⟨⟨idy + 1, by go_num, by omega, by omega, (HeldL.alloc HK1.out), (alloc_below hB302)⟩, by simp [intOf]; omega⟩
        · obtain rfl : idy = 2 := by omega
          have c_b_0 := hK1.get 0 rfl
          have c_b_1 := hK1.get 1 rfl
          have c_b_2 := hK1.get 2 rfl
          have HK1 := Lib.hid hK1
          clear hK1
          go_wp2_with fail
          go_region_held3 (fun w' => w'.cell? ⟨Bx, 0, none⟩ = some (.int .i64 z1) ∧ w'.cell? ⟨Bx, 1, none⟩ = some (.int .i64 z2) ∧ w'.cell? ⟨Bx, 2, none⟩ = some (.int .i64 z3) ∧ w'.cell? ⟨w.heap.size + 1, 0, none⟩ = some (.int .i64 b1) ∧ w'.cell? ⟨w.heap.size + 1, 1, none⟩ = some (.int .i64 b2) ∧ w'.cell? ⟨w.heap.size + 1, 2, none⟩ = some (.int .i64 b3) ∧ HeldL (L0 w.heap.size Bs b1 b2 b3 y1 y2 a1 a2 a3 s b o ++ [I Bx 0 z1, I Bx 1 z2, I Bx 2 z3, I Bi 0 y1, I Bi 1 y2, I Bi 2 u1, I Bi 3 u2]) w' ∧ Below w.heap.size w w')
            (((try go_split_ands); refine ⟨?_, ?_, ?_, ?_, ?_, ?_, ?_, ?_⟩ <;> first | with_reducible assumption | (with_reducible refine cell_later hq ?_; with_reducible assumption) | (with_reducible refine below_two ?_ hq; with_reducible assumption) | (with_reducible refine HeldL.later ?_ hq; with_reducible assumption) | (with_reducible refine HeldL.alloc ?_; with_reducible assumption) | (with_reducible refine alloc_cell ?_; with_reducible assumption) | (with_reducible refine alloc_below ?_; with_reducible assumption) | with_reducible exact cell_drew c_x_0 | with_reducible exact cell_drew c_x_1 | with_reducible exact cell_drew c_x_2 | with_reducible exact cell_drew c_b_0 | with_reducible exact cell_drew c_b_1 | with_reducible exact cell_drew c_b_2 | with_reducible exact HeldL.drew HK1.out | with_reducible exact hB300.drew))
            (first
              | (go_at_call 13; refine (HB.out _).mono ?_; rintro e w301 ⟨rfl, hq⟩))
          rename_i hS
          clear c_x_0 c_x_1 c_x_2 c_b_0 c_b_1 c_b_2 hB300
          obtain ⟨c_x_0, c_x_1, c_x_2, c_b_0, c_b_1, c_b_2, n_HK1, hB301⟩ := hS
          replace HK1 := Lib.hid n_HK1
          clear n_HK1
          have z_b := World.block_lt_of_cell? _ _ c_b_0
          have z_x := World.block_lt_of_cell? _ _ c_x_0
          go_wp2_with fail
          have c_ps_0 : (w301.alloc (.cells #[.int .i64 b1, .int .i64 b2, .int .i64 b3, .int .i64 t, .int .i64 c, .int .i64 p] 23)).cell? ⟨w301.heap.size, 0, none⟩ = some (.int .i64 b1) := by go_simp
          have c_ps_1 : (w301.alloc (.cells #[.int .i64 b1, .int .i64 b2, .int .i64 b3, .int .i64 t, .int .i64 c, .int .i64 p] 23)).cell? ⟨w301.heap.size, 1, none⟩ = some (.int .i64 b2) := by go_simp
          have c_ps_2 : (w301.alloc (.cells #[.int .i64 b1, .int .i64 b2, .int .i64 b3, .int .i64 t, .int .i64 c, .int .i64 p] 23)).cell? ⟨w301.heap.size, 2, none⟩ = some (.int .i64 b3) := by go_simp
          have c_ps_3 : (w301.alloc (.cells #[.int .i64 b1, .int .i64 b2, .int .i64 b3, .int .i64 t, .int .i64 c, .int .i64 p] 23)).cell? ⟨w301.heap.size, 3, none⟩ = some (.int .i64 t) := by go_simp
          have c_ps_4 : (w301.alloc (.cells #[.int .i64 b1, .int .i64 b2, .int .i64 b3, .int .i64 t, .int .i64 c, .int .i64 p] 23)).cell? ⟨w301.heap.size, 4, none⟩ = some (.int .i64 c) := by go_simp
          have c_ps_5 : (w301.alloc (.cells #[.int .i64 b1, .int .i64 b2, .int .i64 b3, .int .i64 t, .int .i64 c, .int .i64 p] 23)).cell? ⟨w301.heap.size, 5, none⟩ = some (.int .i64 p) := by go_simp
          clear z_b
          clear z_x
          generalize w301.alloc (.cells #[.int .i64 b1, .int .i64 b2, .int .i64 b3, .int .i64 t, .int .i64 c, .int .i64 p] 23) = w400 at *
          generalize w301.heap.size = Bp at *
          have hB400 := hB301
          clear hB301 c_b_0 c_b_1 c_b_2
          have HK2 : Hid (HeldL (L0 w.heap.size Bs b1 b2 b3 y1 y2 a1 a2 a3 s b o ++ [I Bx 0 z1, I Bx 1 z2, I Bx 2 z3, I Bp 0 b1, I Bp 1 b2, I Bp 2 b3, I Bp 3 t, I Bp 4 c, I Bp 5 p]) w400) := Lib.hid (HK1.out.left.both (by
            intro q hq
            simp only [I, List.mem_cons, List.not_mem_nil, or_false] at hq
            rcases hq with rfl | rfl | rfl | rfl | rfl | rfl | rfl | rfl | rfl <;> assumption))
          clear HK1 c_x_0 c_x_1 c_x_2 c_ps_0 c_ps_1 c_ps_2 c_ps_3 c_ps_4 c_ps_5
          go_loopw [163] (fun i wr => TRel w (L0 w.heap.size Bs b1 b2 b3 y1 y2 a1 a2 a3 s b o ++ [I Bx 0 z1, I Bx 1 z2, I Bx 2 z3, I Bp 0 b1, I Bp 1 b2, I Bp 2 b3, I Bp 3 t, I Bp 4 c, I Bp 5 p]) i wr) (fun i _ => (2 - intOf i).toNat)
          case atStart => exact ⟨0, rfl, by omega, by omega, HK2.out, hB400⟩
          case round =>
            clear HK2 hB400
            obtain ⟨idz, rfl, t2, t3, hK2, hB500⟩ := hrel
            by_cases hlz : idz < 2
            · have c_x_0 := hK2.get 11 rfl
              have c_x_1 := hK2.get 12 rfl
              have c_x_2 := hK2.get 13 rfl
              obtain ⟨d1, d2, d3, ofz, hofz, g0, g1, g2⟩ : ∃ (d1 d2 d3 : Int) (off : Nat), idz.toNat * 3 = off ∧ wr.cell? ⟨Bp, off, none⟩ = some (.int .i64 d1) ∧ wr.cell? ⟨Bp, off + 1, none⟩ = some (.int .i64 d2) ∧ wr.cell? ⟨Bp, off + 2, none⟩ = some (.int .i64 d3) := by
                obtain rfl | rfl : idz = 0 ∨ idz = 1 := by omega
                · exact ⟨_, _, _, 0, rfl, hK2.get 14 rfl, hK2.get 15 rfl, hK2.get 16 rfl⟩
                · exact ⟨_, _, _, 3, rfl, hK2.get 17 rfl, hK2.get 18 rfl, hK2.get 19 rfl⟩
              have HK2 := Lib.hid hK2
              clear hK2
              obtain ⟨v1, v2, v3, hv1, hv2, hv3⟩ := bt_form (Pit.right z1 z2 z3 && Pit.right d1 d2 d3) z1 z2 z3 d1 d2 d3
              have HV := Lib.hid (And.intro hv1 (And.intro hv2 hv3))
              clear hv1 hv2 hv3
              obtain ⟨cv, hcv⟩ : ∃ v, Pit.cmpP (Pit.right z1 z2 z3 && Pit.right d1 d2 d3) z1 z2 z3 d1 d2 d3 = v := ⟨_, rfl⟩
              have Hcv := Lib.hid hcv
              clear hcv
              have z_x := World.block_lt_of_cell? _ _ c_x_0
              go_wp2_with fail
              have hR' := hR.below (hB500.alloc hB500.size (.cells #[.int .i64 d1, .int .i64 d2, .int .i64 d3] 23))
              refine (between_any _ _ _ _ _ _ _ hR').mono ?_
              rintro e w501 ⟨rfl, hb501⟩
              clear hR'
              have hs501 : Below wr.heap.size wr w501 := Below.trans (by repeat (first | exact Below.refl _ _ | refine Below.alloc ?_ (by simp <;> omega) _)) (hb501.mono (by simp <;> omega))
              replace HK2 := Lib.hid (HK2.out.later hs501)
              replace c_x_0 := cell_later hs501 c_x_0
              replace c_x_1 := cell_later hs501 c_x_1
              replace c_x_2 := cell_later hs501 c_x_2
              have c_y_0 : w501.cell? ⟨wr.heap.size, 0, none⟩ = some (.int .i64 d1) := (hb501.cell (by simp <;> omega)).trans (by go_simp)
              have c_y_1 : w501.cell? ⟨wr.heap.size, 1, none⟩ = some (.int .i64 d2) := (hb501.cell (by simp <;> omega)).trans (by go_simp)
              have c_y_2 : w501.cell? ⟨wr.heap.size, 2, none⟩ = some (.int .i64 d3) := (hb501.cell (by simp <;> omega)).trans (by go_simp)
              clear z_x
              have z_x := World.block_lt_of_cell? _ _ c_x_0
              have z_y := World.block_lt_of_cell? _ _ c_y_0
              have hB501 := below_two hB500 hs501
              clear hB500 hs501 hb501
              rw [HV.out.1, HV.out.2.1, HV.out.2.2]
              clear g0 g1 g2
              go_wp2_with fail
              have hR' := hR.below (hB501.alloc hB501.size (.cells #[.int .i64 v1, .int .i64 v2] 25))
              refine (refBetween_any _ _ _ _ _ _ _).mono ?_
              rintro e w502 ⟨rfl, hb502⟩
              clear hR'
              have hs502 : Below w501.heap.size w501 w502 := Below.trans (by repeat (first | exact Below.refl _ _ | refine Below.alloc ?_ (by simp <;> omega) _)) (hb502.mono (by simp <;> omega))
              replace HK2 := Lib.hid (HK2.out.later hs502)
              replace c_x_0 := cell_later hs502 c_x_0
              replace c_x_1 := cell_later hs502 c_x_1
              replace c_x_2 := cell_later hs502 c_x_2
              replace c_y_0 := cell_later hs502 c_y_0
              replace c_y_1 := cell_later hs502 c_y_1
              replace c_y_2 := cell_later hs502 c_y_2
              have c_p_0 : w502.cell? ⟨w501.heap.size, 0, none⟩ = some (.int .i64 v1) := (hb502.cell (by simp <;> omega)).trans (by go_simp)
              have c_p_1 : w502.cell? ⟨w501.heap.size, 1, none⟩ = some (.int .i64 v2) := (hb502.cell (by simp <;> omega)).trans (by go_simp)
              have z_p := World.block_lt_of_cell? _ _ c_p_0
              clear z_x
              have z_x := World.block_lt_of_cell? _ _ c_x_0
              clear z_y
              have z_y := World.block_lt_of_cell? _ _ c_y_0
              have hB502 := below_two hB501 hs502
              clear hB501 hs502 hb502
              rw [HV.out.1, HV.out.2.1, HV.out.2.2]
              go_wp2_with fail
              have hs503 : Below w502.heap.size w502 (w502.alloc (.cells #[.int .i64 v1, .int .i64 v2] 25)) := by repeat (first | exact Below.refl _ _ | refine Below.alloc ?_ (by simp <;> omega) _)
              replace HK2 := Lib.hid (HK2.out.later hs503)
              replace c_x_0 := cell_later hs503 c_x_0
              replace c_x_1 := cell_later hs503 c_x_1
              replace c_x_2 := cell_later hs503 c_x_2
              replace c_y_0 := cell_later hs503 c_y_0
              replace c_y_1 := cell_later hs503 c_y_1
              replace c_y_2 := cell_later hs503 c_y_2
              replace c_p_0 := cell_later hs503 c_p_0
              replace c_p_1 := cell_later hs503 c_p_1
              have c_q_0 : (w502.alloc (.cells #[.int .i64 v1, .int .i64 v2] 25)).cell? ⟨w502.heap.size, 0, none⟩ = some (.int .i64 v1) := by go_simp
              have c_q_1 : (w502.alloc (.cells #[.int .i64 v1, .int .i64 v2] 25)).cell? ⟨w502.heap.size, 1, none⟩ = some (.int .i64 v2) := by go_simp
              have hB503 := below_two hB502 hs503
              clear hB502 hs503
              have y503_p := z_p
              have y503_x := z_x
              have y503_y := z_y
              generalize (w502.alloc (.cells #[.int .i64 v1, .int .i64 v2] 25)) = w503 at *
              clear z_p
              have z_p := World.block_lt_of_cell? _ _ c_p_0
              have z_q := World.block_lt_of_cell? _ _ c_q_0
              clear z_x
              have z_x := World.block_lt_of_cell? _ _ c_x_0
              clear z_y
              have z_y := World.block_lt_of_cell? _ _ c_y_0
              have QB : Hid (∀ d os, Below w.heap.size w (Go.Sort.grow (redrawn w503 d) os)) := Lib.hid (fun d os => below_two hB503 (below_regrown w503 d os))
              have g_c_x_0 := fun d os => cell_regrown c_x_0 d os
              have g_c_x_1 := fun d os => cell_regrown c_x_1 d os
              have g_c_x_2 := fun d os => cell_regrown c_x_2 d os
              have g_c_y_0 := fun d os => cell_regrown c_y_0 d os
              have g_c_y_1 := fun d os => cell_regrown c_y_1 d os
              have g_c_y_2 := fun d os => cell_regrown c_y_2 d os
              have g_c_p_0 := fun d os => cell_regrown c_p_0 d os
              have g_c_p_1 := fun d os => cell_regrown c_p_1 d os
              have g_c_q_0 := fun d os => cell_regrown c_q_0 d os
              have g_c_q_1 := fun d os => cell_regrown c_q_1 d os
              have q0 : Hid (∀ d os, Calls Tryd.prog 27 #[pt z1 z2 z3, pt d1 d2 d3] (Go.Sort.grow (redrawn w503 d) os) fun e w'' => e = .returned (.int .i64 cv) ∧ ∃ p : Regrown, w'' = Go.Sort.grow (redrawn w503 p.d) p.os) := Lib.hid (fun d os => Calls.regrown_of (by have h := compare_any z1 z2 z3 d1 d2 d3 _ (hR.below (QB.out d os)); rw [Hcv.out] at h; exact h))
              have q1 : Hid (∀ d os, Calls Tryd.prog 28 #[pt z1 z2 z3, pt d1 d2 d3] (Go.Sort.grow (redrawn w503 d) os) fun e w'' => e = .returned (.int .i64 cv) ∧ ∃ p : Regrown, w'' = Go.Sort.grow (redrawn w503 p.d) p.os) := Lib.hid (fun d os => Calls.regrown_of (by have h := refCompare_any z1 z2 z3 d1 d2 d3 (Go.Sort.grow (redrawn w503 d) os); rw [Hcv.out] at h; exact h))
              refine wp_region_quiet_below (by kernel_rfl) (by kernel_rfl) ?_
              repeat (quiet_step (first | exact q0.out _ _ | exact q1.out _ _))
              refine wpQuiet_nil ?_
              intro _ hw'
              obtain ⟨⟨dq, osq⟩, hw''⟩ := hw'
              subst hw''
              replace HK2 := Lib.hid (HK2.out.later (below_regrown w503 dq osq))
              replace c_x_0 := g_c_x_0 dq osq
              clear g_c_x_0
              replace c_x_1 := g_c_x_1 dq osq
              clear g_c_x_1
              replace c_x_2 := g_c_x_2 dq osq
              clear g_c_x_2
              replace c_y_0 := g_c_y_0 dq osq
              clear g_c_y_0
              replace c_y_1 := g_c_y_1 dq osq
              clear g_c_y_1
              replace c_y_2 := g_c_y_2 dq osq
              clear g_c_y_2
              replace c_p_0 := g_c_p_0 dq osq
              clear g_c_p_0
              replace c_p_1 := g_c_p_1 dq osq
              clear g_c_p_1
              replace c_q_0 := g_c_q_0 dq osq
              clear g_c_q_0
              replace c_q_1 := g_c_q_1 dq osq
              clear g_c_q_1
              clear q0
              clear q1
              have hB504 := QB.out dq osq
              clear QB hB503 z_p z_q z_x z_y
              generalize Go.Sort.grow (redrawn w503 dq) osq = w504 at *
              have z_p := World.block_lt_of_cell? _ _ c_p_0
              have z_q := World.block_lt_of_cell? _ _ c_q_0
              have z_x := World.block_lt_of_cell? _ _ c_x_0
              have z_y := World.block_lt_of_cell? _ _ c_y_0
              clear c_x_0 c_x_1 c_x_2 c_y_0 c_y_1 c_y_2 c_p_0 c_p_1 c_q_0 c_q_1
              go_wp2
              exact ⟨⟨idz + 1, by go_num, by omega, by omega, HK2.out, hB504⟩, by simp [intOf]; omega⟩
            · obtain rfl : idz = 2 := by omega
              have HK2 := Lib.hid hK2
              clear hK2
              go_wp2
              exact ⟨⟨idx + 1, by go_num, by omega, by omega, HK2.out.left, hB500⟩, by simp [intOf]; omega⟩
    · obtain rfl : idx = 2 := by omega
      clear hK x0 x1 hlt
      have hB600 := hB
      clear hB
      obtain ⟨v1, v2, v3, v4, hv⟩ := rdV_form (Pit.rd F.data.toList)
      have HV := Lib.hid hv
      clear hv
      go_wp2_with fail
      have hR' := hR.below hB600
      refine (read_any _ _ hR' hFs).mono ?_
      rintro e w601 ⟨rfl, hb601⟩
      clear hR'
      have hs601 := hb601
      have hB601 := below_two hB600 hs601
      clear hB600 hs601
      rw [HV.out]
      go_wp2_with fail
      have hR' := hR.below (hB601.alloc hB601.size (.cells #[.int .i64 v1, .int .i64 v2, .int .i64 v3] 23))
      refine (refRead_any _ _).mono ?_
      rintro e w602 ⟨rfl, hb602⟩
      clear hR'
      have hs602 : Below w601.heap.size w601 w602 := Below.trans (by repeat (first | exact Below.refl _ _ | refine Below.alloc ?_ (by simp <;> omega) _)) (hb602.mono (by simp <;> omega))
      have c_p_0 : w602.cell? ⟨w601.heap.size, 0, none⟩ = some (.int .i64 v1) := (hb602.cell (by simp <;> omega)).trans (by go_simp)
      have c_p_1 : w602.cell? ⟨w601.heap.size, 1, none⟩ = some (.int .i64 v2) := (hb602.cell (by simp <;> omega)).trans (by go_simp)
      have c_p_2 : w602.cell? ⟨w601.heap.size, 2, none⟩ = some (.int .i64 v3) := (hb602.cell (by simp <;> omega)).trans (by go_simp)
      have z_p := World.block_lt_of_cell? _ _ c_p_0
      have hB602 := below_two hB601 hs602
      clear hB601 hs602 hb602
      rw [HV.out]
      go_wp2
      go_ret
      exact ⟨rfl, (hB602.alloc hB602.size (.cells #[.int .i64 v1, .int .i64 v2, .int .i64 v3] 23))⟩

theorem pitchTells_calls (a1 a2 a3 b1 b2 b3 y1 y2 : Int) (x : ByteArray) (h1 : Pit.I64 a1) (h2 : Pit.I64 a2) (h3 : Pit.I64 a3) (i1 : Pit.I64 b1) (i2 : Pit.I64 b2) (i3 : Pit.I64 b3) (j1 : Pit.I64 y1) (j2 : Pit.I64 y2) (_hx : x.size ≤ maxLen) (w : World) (hR : Ready w) : LawHolds 3 #[pt a1 a2 a3, pt b1 b2 b3, iv y1 y2, .string x] w := by
  obtain ⟨s, b, o, _, hA⟩ := pitch_fix a1 a2 a3 h1 h2 h3
  obtain ⟨t, c, p, _, hB⟩ := pitch_fix b1 b2 b3 i1 i2 i3
  obtain ⟨p1, q1⟩ := pickS_bounds y1 (n := 41) (by decide)
  obtain ⟨p2, q2⟩ := pickS_bounds y2 (n := 81) (by decide)
  exact tells_w a1 a2 a3 b1 b2 b3 y1 y2 x s b o t c p w hR (Lib.hid hA) (Lib.hid hB) _ _ rfl (by omega) (by omega) rfl (by rw [ByteArray.size_extract]; omega) j1 j2 _ _ _ _ (Lib.hid rfl) (Lib.hid rfl) rfl rfl
end Go.Proofs.YtoopchnncjfjoaaDoor
