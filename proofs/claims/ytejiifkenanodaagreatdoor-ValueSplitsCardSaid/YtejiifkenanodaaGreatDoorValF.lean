/-
  The contract of value.fill; rows of values in memory.
-/
import Derived.Test.YtejiifkenanodaaGreatDoorValE
import Derived.OwnWalk
namespace Go.Proofs.YtejiifkenanodaaGreatDoor
open Go.RowKit

abbrev Quad := Int × Int × Int × Int
def rowOf (l : List Quad) : List Value := l.flatMap fun p => [.int .i64 p.1, .int .i64 p.2.1, .int .i64 p.2.2.1, .int .i64 p.2.2.2]
theorem rowOf_append (l m : List Quad) : rowOf (l ++ m) = rowOf l ++ rowOf m := by unfold rowOf; simp
theorem rowOf_length (l : List Quad) : (rowOf l).length = 4 * l.length := by
  induction l with
  | nil => rfl
  | cons x l ih => rw [show x :: l = [x] ++ l from rfl, rowOf_append, List.length_append, ih, List.length_append]; simp [rowOf]; omega
theorem rowOf_at (f : Nat → Quad) {n i : Nat} (h : i < n) : (rowOf (Val.upto f n))[i * 4]? = some (.int .i64 (f i).1) ∧ (rowOf (Val.upto f n))[i * 4 + 1]? = some (.int .i64 (f i).2.1) ∧ (rowOf (Val.upto f n))[i * 4 + 2]? = some (.int .i64 (f i).2.2.1) ∧ (rowOf (Val.upto f n))[i * 4 + 3]? = some (.int .i64 (f i).2.2.2) := by
  induction n with
  | zero => omega
  | succ n ih =>
    have hl := rowOf_length (Val.upto f n)
    rw [Val.upto_length] at hl
    rw [Val.upto_succ, rowOf_append]
    by_cases hi : i < n
    · obtain ⟨a, b, c, d⟩ := ih hi
      rw [List.getElem?_append_left (by omega), List.getElem?_append_left (by omega), List.getElem?_append_left (by omega), List.getElem?_append_left (by omega)]
      exact ⟨a, b, c, d⟩
    · obtain rfl : i = n := by omega
      rw [List.getElem?_append_right (by omega), List.getElem?_append_right (by omega), List.getElem?_append_right (by omega), List.getElem?_append_right (by omega), hl, show i * 4 - 4 * i = 0 by omega, show i * 4 + 1 - 4 * i = 1 by omega, show i * 4 + 2 - 4 * i = 2 by omega, show i * 4 + 3 - 4 * i = 3 by omega]
      exact ⟨rfl, rfl, rfl, rfl⟩
theorem own_later {w w' : World} {base : Nat} {e : TypeId} {size : Nat} {v : Value} {n : Nat} {xs : List Value} (h : w.ownsRow base e size v n xs) (hb : Below w.heap.size w w') : w'.ownsRow base e size v n xs :=
  h.kept (row := none) ⟨hb.os, hb.tape, hb.output, hb.size, fun k hk _ => hb.block k hk⟩ (by cases hv : v.ownBlock <;> simp)
theorem infoV : (Tryz.prog.info? 23).map (fun i => (i.zero, i.size, i.bytes)) = some (some (.agg #[.int .i64 0, .int .i64 0, .int .i64 0, .int .i64 0]), 4, 32) := by kernel_rfl
theorem own_set {w : World} {base B o : Nat} {x : Value} {e : TypeId} {size : Nat} {v : Value} {n : Nat} {xs : List Value} (h : w.ownsRow base e size v n xs) (hB : B < base) : (w.setCell ⟨B, o, none⟩ x).ownsRow base e size v n xs :=
  h.kept (row := some B) ⟨rfl, rfl, rfl, by simp [World.setCell], fun k _ hk => Below.heap_setCell _ _ _ _ (fun e => hk (by rw [e]))⟩ (.inr (fun e => by have := (h.lt B e).1; omega))
theorem own_nil (w : World) (base : Nat) (e : TypeId) (size : Nat) : w.ownsRow base e size (.slice none 0 0) 0 [] := ⟨by simp, .inl ⟨rfl, rfl⟩⟩
/-- A list of values in memory. -/
def Row (W : World) (v : Value) (f : Nat → Quad) (n : Nat) : Prop :=
  ∃ g cap, v = .slice (some ⟨g, 0, none⟩) n cap ∧ ∀ i, i < n → W.cell? ⟨g, i * 4, none⟩ = some (.int .i64 (f i).1) ∧ W.cell? ⟨g, i * 4 + 1, none⟩ = some (.int .i64 (f i).2.1) ∧ W.cell? ⟨g, i * 4 + 2, none⟩ = some (.int .i64 (f i).2.2.1) ∧ W.cell? ⟨g, i * 4 + 3, none⟩ = some (.int .i64 (f i).2.2.2)
theorem Row.later {W W' : World} {v : Value} {f : Nat → Quad} {n : Nat} (h : Row W v f n) (hb : Below W.heap.size W W') : Row W' v f n := by
  obtain ⟨g, cap, rfl, hc⟩ := h
  exact ⟨g, cap, rfl, fun i hi => ⟨cell_later hb (hc i hi).1, cell_later hb (hc i hi).2.1, cell_later hb (hc i hi).2.2.1, cell_later hb (hc i hi).2.2.2⟩⟩
theorem Row.same {W : World} {v : Value} {f g : Nat → Quad} {n : Nat} (h : Row W v f n) (e : ∀ i, i < n → f i = g i) : Row W v g n := by
  obtain ⟨b, cap, rfl, hc⟩ := h
  exact ⟨b, cap, rfl, fun i hi => by rw [← e i hi]; exact hc i hi⟩
theorem cell_of_cells {W : World} {g j : Nat} {cur : Array Value} {e : TypeId} {v : Value} (h : W.heap[g]? = some (.cells cur e (0, 0))) (hc : cur[j]? = some v) : W.cell? ⟨g, j, none⟩ = some v := by
  unfold World.cell?
  simp [h, hc]
theorem row_of {W : World} {base : Nat} {e : TypeId} {v : Value} {f : Nat → Quad} {n : Nat} (hn : 0 < n) (h : W.ownsRow base e 4 v n (rowOf (Val.upto f n))) : Row W v f n := by
  obtain ⟨hl, ⟨_, h0⟩ | ⟨g, cap, cur, rfl, _, hg, hcap, _, hsz, ht⟩⟩ := h
  · omega
  · refine ⟨g, cap, rfl, fun i hi => ?_⟩
    have key : ∀ j, j < n * 4 → cur[j]? = (rowOf (Val.upto f n))[j]? := fun j hj => by
      rw [← ht, List.getElem?_take, if_pos hj, Array.getElem?_toList]
    obtain ⟨a, b, c, d⟩ := rowOf_at f hi
    exact ⟨cell_of_cells hg ((key _ (by omega)).trans a), cell_of_cells hg ((key _ (by omega)).trans b), cell_of_cells hg ((key _ (by omega)).trans c), cell_of_cells hg ((key _ (by omega)).trans d)⟩
/-- The parts of so many units, of a kind. -/
def prt (u n e : Int) (j : Nat) : Quad := (Val.gB (Val.rm u j), Val.gT (Val.rm u j), n, e)
theorem cells4_new (w : World) (t : TypeId) (x y z q : Value) {n : Nat} (hn : w.heap.size = n) : ∀ (jj : Nat) (u : Value), [x, y, z, q][jj]? = some u → (w.alloc (.cells #[x, y, z, q] t)).cell? (Addr.add ⟨n, 0, none⟩ jj) = some u := by
  subst hn
  intro jj u hu
  rcases jj with _ | _ | _ | _ | jj
  · simp at hu; subst hu; simp [Addr.add]
  · simp at hu; subst hu; simp [Addr.add]
  · simp at hu; subst hu; simp [Addr.add]
  · simp at hu; subst hu; simp [Addr.add]
  · simp at hu
def FillPost (u n e : Int) (w : World) (ed : Ending) (w' : World) : Prop := (∃ v k, ed = .returned v ∧ Val.Fills u k ∧ 1 ≤ k ∧ Row w' v (prt u n e) k) ∧ Below w.heap.size w w'
def FillRel (u b d n e : Int) (w : World) (a l : Value) (wr : World) : Prop :=
  ∃ (j : Nat) (r : Int), a = .int .i64 r ∧ Hid (Val.rm u j = r) ∧ Hid (∀ i, i < j → 1 ≤ Val.rm u i) ∧ wr.ownsRow (w.heap.size + 1) 23 4 l j (rowOf (Val.upto (prt u n e) j)) ∧ V4 b d n e w.heap.size wr ∧ Below w.heap.size w wr

set_option maxRecDepth 100000 in
set_option maxHeartbeats 4000000 in
theorem fill_any (b d n e u : Int) (w : World) (hR : Vars w) (u1 : 1 ≤ u) (u2 : u ≤ 7168) :
    Calls Tryz.prog 59 #[vl b d n e, .int .i64 u] w (FillPost u n e w) := by
  obtain ⟨i0, hi, hz0, hz1, hz2⟩ := info_parts infoV
  have hB0 : Below w.heap.size w w := Below.refl _ _
  go_enter Tryz.func59, Tryz.ntmps59
  go_wp2_with fail
  have hs1 : Below w.heap.size w (w.alloc (.cells #[.int .i64 b, .int .i64 d, .int .i64 n, .int .i64 e] 23)) := by repeat (first | exact Below.refl _ _ | refine Below.alloc ?_ (by simp <;> omega) _)
  have c_k_0 : (w.alloc (.cells #[.int .i64 b, .int .i64 d, .int .i64 n, .int .i64 e] 23)).cell? ⟨w.heap.size, 0, none⟩ = some (.int .i64 b) := by go_simp
  have c_k_1 : (w.alloc (.cells #[.int .i64 b, .int .i64 d, .int .i64 n, .int .i64 e] 23)).cell? ⟨w.heap.size, 1, none⟩ = some (.int .i64 d) := by go_simp
  have c_k_2 : (w.alloc (.cells #[.int .i64 b, .int .i64 d, .int .i64 n, .int .i64 e] 23)).cell? ⟨w.heap.size, 2, none⟩ = some (.int .i64 n) := by go_simp
  have c_k_3 : (w.alloc (.cells #[.int .i64 b, .int .i64 d, .int .i64 n, .int .i64 e] 23)).cell? ⟨w.heap.size, 3, none⟩ = some (.int .i64 e) := by go_simp
  have hB1 := below_two hB0 hs1
  clear hB0 hs1
  generalize (w.alloc (.cells #[.int .i64 b, .int .i64 d, .int .i64 n, .int .i64 e] 23)) = w1 at *
  have z_k := World.block_lt_of_cell? _ _ c_k_0
  have hK : V4 b d n e w.heap.size w1 := ⟨c_k_0, c_k_1, c_k_2, c_k_3⟩
  clear c_k_0 c_k_1 c_k_2 c_k_3
  go_loopw [1, 5] (fun a l wr => FillRel u b d n e w a l wr) (fun a _ _ => (intOf a).toNat)
  case atStart => exact ⟨0, u, rfl, Lib.hid rfl, Lib.hid (fun i hi => by omega), own_nil _ _ _ _, hK, hB1⟩
  case round =>
    clear hK hB1 z_k
    obtain ⟨j, r, rfl, HR, HP, hown, hK, hB⟩ := hrel
    obtain ⟨hn0, hnu⟩ := Val.rm_nonneg (u := u) (by omega) HP.out
    rw [HR.out] at hn0 hnu
    by_cases hr : 0 < r
    · obtain ⟨k0, k1, k2, k3⟩ := hK
      go_wp2_with fail
      refine (fit_any b d n e r _ (hR.below hB) (by omega)).mono ?_
      rintro ed w4 ⟨rfl, hb⟩
      replace k0 := cell_later hb k0
      replace k1 := cell_later hb k1
      replace k2 := cell_later hb k2
      replace k3 := cell_later hb k3
      replace hown := own_later hown hb
      replace hB := below_two hB hb
      clear hb
      have hU := (Val.fitK_lt (m := r) (by omega)).2
      have HQ : Hid (prt u n e j = (Val.gB r, Val.gT r, n, e)) := Lib.hid (by unfold prt; rw [HR.out])
      have HG : Hid (Val.rm u (j + 1) = r - Val.gU r) := Lib.hid (by show Val.rm u j - Val.gU (Val.rm u j) = _; rw [HR.out])
      generalize Val.gB r = x at *
      generalize Val.gT r = y at *
      generalize Val.gU r = g at *
      obtain ⟨g1, g2, -⟩ := hU
      have HOW := Lib.hid hown
      have HK := Lib.hid (V4.mk k0 k1 k2 k3)
      have HB := Lib.hid hB
      have zK := World.block_lt_of_cell? _ _ k0
      clear hown hB k0 k1 k2 k3
      go_wp2_with (first
        | (at_builtin; refine wpList_append_own _ rfl _ _ 31 rfl (w.heap.size + 1) 23 i0 (.agg #[.int .i64 0, .int .i64 0, .int .i64 0, .int .i64 0]) 4 32 Tryz.underlying31 hi hz0 hz1 hz2 rfl (by decide) _ _ _ rfl ((HOW.out.alloc _).alloc _) ⟨w4.heap.size + 1, 0, none⟩ 1 1 [.int .i64 x, .int .i64 y, .int .i64 n, .int .i64 e] rfl rfl ?c1 ?c2 ?c3 ?c4 ?c5 ?_)
        | fail)
      case c1 => exact cells4_new _ _ _ _ _ _ (by simp)
      case c2 => intro u hu; simp at hu; rcases hu with rfl | rfl | rfl | rfl <;> rfl
      case c3 => unfold maxLen; omega
      case c4 => omega
      case c5 => simp; omega
      · intro v' w5 hown5 hgrow _
        have hb5 : Below (w.heap.size + 1) ((w4.alloc (.cells #[.int .i64 x, .int .i64 y, .int .i64 n, .int .i64 e] 23)).alloc (.cells #[.int .i64 x, .int .i64 y, .int .i64 n, .int .i64 e] 23)) w5 := (Below.refl _ _).grown hgrow (by simp; omega) (fun k hk => (HOW.out.lt k hk).1)
        have k5a := (hb5.cell (p := ⟨w.heap.size, 0, none⟩) (by simp)).trans (alloc_cell (alloc_cell HK.out.k0))
        have k5b := (hb5.cell (p := ⟨w.heap.size, 1, none⟩) (by simp)).trans (alloc_cell (alloc_cell HK.out.k1))
        have k5c := (hb5.cell (p := ⟨w.heap.size, 2, none⟩) (by simp)).trans (alloc_cell (alloc_cell HK.out.k2))
        have k5d := (hb5.cell (p := ⟨w.heap.size, 3, none⟩) (by simp)).trans (alloc_cell (alloc_cell HK.out.k3))
        have hB5 : Below w.heap.size w w5 := (alloc_below (alloc_below HB.out)).trans (hb5.mono (by omega))
        have HOWN : Hid (w5.ownsRow (w.heap.size + 1) 23 4 v' (j + 1) (rowOf (Val.upto (prt u n e) (j + 1)))) := Lib.hid (by rw [Val.upto_succ, rowOf_append, HQ.out]; exact hown5)
        have HK5 := Lib.hid (V4.mk k5a k5b k5c k5d)
        have HB5 := Lib.hid hB5
        clear hb5 hown5 hgrow hB5 k5a k5b k5c k5d HOW HK HB
        have HP2 : Hid (∀ i, i < j + 1 → 1 ≤ Val.rm u i) := Lib.hid (fun i hi => by by_cases e : i = j; (rw [e, HR.out]; omega); exact HP.out i (by omega))
        go_wp2
        go_roundw
        case rel => exact ⟨j + 1, r - g, rfl, Lib.hid HG.out, HP2, HOWN.out, HK5.out, HB5.out⟩
        case measure => simp [intOf]; omega
    · obtain rfl : r = 0 := by omega
      have HOW := Lib.hid hown
      clear hown
      have HJ : Hid (1 ≤ j) := Lib.hid (by
        rcases Nat.eq_zero_or_pos j with h | h
        · subst h; have := HR.out; simp only [Val.rm] at this; omega
        · exact h)
      go_wp2
      go_ret
      exact ⟨⟨_, j, rfl, ⟨HR.out, HP.out⟩, HJ.out, row_of HJ.out HOW.out⟩, hB⟩

set_option maxRecDepth 100000 in
set_option maxHeartbeats 4000000 in
theorem split_no1 (x y : Int) (w : World) (hR : Vars w) (h : Rat.right x y = false) :
    Calls Tryz.prog 30 #[rt x y] w fun ed w' => ed = .returned (.tuple #[.slice none 0 0, .int .i64 41]) ∧ Below w.heap.size w w' := by
  have hB0 : Below w.heap.size w w := Below.refl _ _
  go_enter Tryz.func30, Tryz.ntmps30
  go_wp2_with fail
  have hR' := hR.below ((hB0.alloc hB0.size (.cells #[.int .i64 x, .int .i64 y] 25)).alloc (hB0.alloc hB0.size (.cells #[.int .i64 x, .int .i64 y] 25)).size (.cells #[.int .i64 64, .int .i64 1] 25))
  refine (ratio_right x y _).mono ?_
  rintro e w1 ⟨rfl, hb1⟩
  clear hR'
  have hs1 : Below w.heap.size w w1 := Below.trans (by repeat (first | exact Below.refl _ _ | refine Below.alloc ?_ (by simp <;> omega) _)) (hb1.mono (by simp <;> omega))
  have c_l_0 : w1.cell? ⟨w.heap.size, 0, none⟩ = some (.int .i64 x) := (hb1.cell (by simp <;> omega)).trans (by go_simp)
  have c_l_1 : w1.cell? ⟨w.heap.size, 1, none⟩ = some (.int .i64 y) := (hb1.cell (by simp <;> omega)).trans (by go_simp)
  have c_m_0 : w1.cell? ⟨w.heap.size + 1, 0, none⟩ = some (.int .i64 64) := (hb1.cell (by simp <;> omega)).trans (by go_simp)
  have c_m_1 : w1.cell? ⟨w.heap.size + 1, 1, none⟩ = some (.int .i64 1) := (hb1.cell (by simp <;> omega)).trans (by go_simp)
  have z_l := World.block_lt_of_cell? _ _ c_l_0
  have z_m := World.block_lt_of_cell? _ _ c_m_0
  have hB1 := below_two hB0 hs1
  clear hB0 hs1 hb1
  rw [h]
  go_wp2
  go_ret2
  exact ⟨rfl, hB1⟩

set_option maxRecDepth 100000 in
set_option maxHeartbeats 4000000 in
theorem split_no2 (x y : Int) (w : World) (hR : Vars w) (h : Rat.right x y = true) (h0 : x ≤ 0) :
    Calls Tryz.prog 30 #[rt x y] w fun ed w' => ed = .returned (.tuple #[.slice none 0 0, .int .i64 41]) ∧ Below w.heap.size w w' := by
  have hB0 : Below w.heap.size w w := Below.refl _ _
  go_enter Tryz.func30, Tryz.ntmps30
  go_wp2_with fail
  have hR' := hR.below ((hB0.alloc hB0.size (.cells #[.int .i64 x, .int .i64 y] 25)).alloc (hB0.alloc hB0.size (.cells #[.int .i64 x, .int .i64 y] 25)).size (.cells #[.int .i64 64, .int .i64 1] 25))
  refine (ratio_right x y _).mono ?_
  rintro e w1 ⟨rfl, hb1⟩
  clear hR'
  have hs1 : Below w.heap.size w w1 := Below.trans (by repeat (first | exact Below.refl _ _ | refine Below.alloc ?_ (by simp <;> omega) _)) (hb1.mono (by simp <;> omega))
  have c_l_0 : w1.cell? ⟨w.heap.size, 0, none⟩ = some (.int .i64 x) := (hb1.cell (by simp <;> omega)).trans (by go_simp)
  have c_l_1 : w1.cell? ⟨w.heap.size, 1, none⟩ = some (.int .i64 y) := (hb1.cell (by simp <;> omega)).trans (by go_simp)
  have c_m_0 : w1.cell? ⟨w.heap.size + 1, 0, none⟩ = some (.int .i64 64) := (hb1.cell (by simp <;> omega)).trans (by go_simp)
  have c_m_1 : w1.cell? ⟨w.heap.size + 1, 1, none⟩ = some (.int .i64 1) := (hb1.cell (by simp <;> omega)).trans (by go_simp)
  have z_l := World.block_lt_of_cell? _ _ c_l_0
  have z_m := World.block_lt_of_cell? _ _ c_m_0
  have hB1 := below_two hB0 hs1
  clear hB0 hs1 hb1
  rw [h]
  go_wp2
  go_ret2
  exact ⟨rfl, hB1⟩

set_option maxRecDepth 100000 in
set_option maxHeartbeats 4000000 in
theorem split_no3 (x y : Int) (w : World) (hR : Vars w) (c : Int) (h : Rat.right x y = true) (h0 : ¬ x ≤ 0) (HC : Hid (∀ w, Calls Tryz.prog 31 #[rt x y, rt 64 1] w fun ed w' => ed = .returned (.int .i64 c) ∧ Below w.heap.size w w')) (hc : 0 < c) :
    Calls Tryz.prog 30 #[rt x y] w fun ed w' => ed = .returned (.tuple #[.slice none 0 0, .int .i64 41]) ∧ Below w.heap.size w w' := by
  have hB0 : Below w.heap.size w w := Below.refl _ _
  go_enter Tryz.func30, Tryz.ntmps30
  go_wp2_with fail
  have hR' := hR.below ((hB0.alloc hB0.size (.cells #[.int .i64 x, .int .i64 y] 25)).alloc (hB0.alloc hB0.size (.cells #[.int .i64 x, .int .i64 y] 25)).size (.cells #[.int .i64 64, .int .i64 1] 25))
  refine (ratio_right x y _).mono ?_
  rintro e w1 ⟨rfl, hb1⟩
  clear hR'
  have hs1 : Below w.heap.size w w1 := Below.trans (by repeat (first | exact Below.refl _ _ | refine Below.alloc ?_ (by simp <;> omega) _)) (hb1.mono (by simp <;> omega))
  have c_l_0 : w1.cell? ⟨w.heap.size, 0, none⟩ = some (.int .i64 x) := (hb1.cell (by simp <;> omega)).trans (by go_simp)
  have c_l_1 : w1.cell? ⟨w.heap.size, 1, none⟩ = some (.int .i64 y) := (hb1.cell (by simp <;> omega)).trans (by go_simp)
  have c_m_0 : w1.cell? ⟨w.heap.size + 1, 0, none⟩ = some (.int .i64 64) := (hb1.cell (by simp <;> omega)).trans (by go_simp)
  have c_m_1 : w1.cell? ⟨w.heap.size + 1, 1, none⟩ = some (.int .i64 1) := (hb1.cell (by simp <;> omega)).trans (by go_simp)
  have z_l := World.block_lt_of_cell? _ _ c_l_0
  have z_m := World.block_lt_of_cell? _ _ c_m_0
  have hB1 := below_two hB0 hs1
  clear hB0 hs1 hb1
  rw [h]
  go_wp2_with fail
  have hR' := hR.below hB1
  refine (HC.out _).mono ?_
  rintro e w2 ⟨rfl, hb2⟩
  clear hR'
  have hs2 := hb2
  replace c_l_0 := cell_later hs2 c_l_0
  replace c_l_1 := cell_later hs2 c_l_1
  replace c_m_0 := cell_later hs2 c_m_0
  replace c_m_1 := cell_later hs2 c_m_1
  clear z_l
  have z_l := World.block_lt_of_cell? _ _ c_l_0
  clear z_m
  have z_m := World.block_lt_of_cell? _ _ c_m_0
  have hB2 := below_two hB1 hs2
  clear hB1 hs2
  go_wp2
  go_ret2
  exact ⟨rfl, hB2⟩

/-- By which kind a length is split; 4: by none. -/
def Val.spK (x y : Int) : Nat := if Val.may x y then Val.kI x y else 4
/-- What Split answers. -/
def SplV (x y : Int) (W : World) (v : Value) (er : Int) : Prop :=
  (Val.spK x y = 4 ∧ er = 41 ∧ v = .slice none 0 0) ∨ (∃ i k, i < 4 ∧ Val.spK x y = i ∧ er = 0 ∧ Val.Fills (Val.uI x y i) k ∧ 1 ≤ k ∧ Row W v (prt (Val.uI x y i) (Val.kN i) (Val.kE i)) k)
theorem SplV.later {x y : Int} {W W' : World} {v : Value} {er : Int} (h : SplV x y W v er) (hb : Below W.heap.size W W') : SplV x y W' v er := by
  rcases h with h | ⟨i, k, a, b, c, d, e, f⟩
  · exact .inl h
  · exact .inr ⟨i, k, a, b, c, d, e, f.later hb⟩
def SplPost (x y : Int) (w : World) (ed : Ending) (w' : World) : Prop := (∃ v er, ed = .returned (.tuple #[v, .int .i64 er]) ∧ SplV x y w' v er) ∧ Below w.heap.size w w'
def SOut (x y : Int) (w : World) (a : Value) (wr : World) : Prop := ∃ i : Nat, a = .int .i64 (i : Int) ∧ i ≤ 4 ∧ Hid (∀ j, j < i → Val.unI x y j = false) ∧ (wr.cell? ⟨w.heap.size, 0, none⟩ = some (.int .i64 x) ∧ wr.cell? ⟨w.heap.size, 1, none⟩ = some (.int .i64 y)) ∧ Below w.heap.size w wr
theorem uI_pos {x y : Int} (h : Val.may x y = true) {i : Nat} (hi : i < 4) (hu : Val.unI x y i = true) : 1 ≤ Val.uI x y i := by
  obtain ⟨hr, h0, h64⟩ := (may_iff x y).1 h
  obtain ⟨m0, m1⟩ := mI_le hi
  have hy := hr.d1
  have hw : (x * Val.mI i) % y = 0 := of_decide_eq_true hu
  have e : Val.uI x y i * y = x * Val.mI i := Int.ediv_mul_cancel_of_emod_eq_zero hw
  have hp : 0 < x * Val.mI i := Int.mul_pos h0 (by omega)
  by_cases hz : 1 ≤ Val.uI x y i
  · exact hz
  · exfalso
    have : Val.uI x y i * y ≤ 0 := Int.mul_nonpos_of_nonpos_of_nonneg (by omega) (by omega)
    omega

set_option maxRecDepth 100000 in
set_option maxHeartbeats 4000000 in
theorem split_yes (x y : Int) (w : World) (hR : Vars w) (c : Int) (hm : Val.may x y = true) (h : Rat.right x y = true) (h0 : ¬ x ≤ 0) (HC : Hid (∀ w, Calls Tryz.prog 31 #[rt x y, rt 64 1] w fun ed w' => ed = .returned (.int .i64 c) ∧ Below w.heap.size w w')) (hc : ¬ 0 < c) :
    Calls Tryz.prog 30 #[rt x y] w (SplPost x y w) := by
  have hB0 : Below w.heap.size w w := Below.refl _ _
  go_enter Tryz.func30, Tryz.ntmps30
  go_wp2_with fail
  have hR' := hR.below ((hB0.alloc hB0.size (.cells #[.int .i64 x, .int .i64 y] 25)).alloc (hB0.alloc hB0.size (.cells #[.int .i64 x, .int .i64 y] 25)).size (.cells #[.int .i64 64, .int .i64 1] 25))
  refine (ratio_right x y _).mono ?_
  rintro e w1 ⟨rfl, hb1⟩
  clear hR'
  have hs1 : Below w.heap.size w w1 := Below.trans (by repeat (first | exact Below.refl _ _ | refine Below.alloc ?_ (by simp <;> omega) _)) (hb1.mono (by simp <;> omega))
  have c_l_0 : w1.cell? ⟨w.heap.size, 0, none⟩ = some (.int .i64 x) := (hb1.cell (by simp <;> omega)).trans (by go_simp)
  have c_l_1 : w1.cell? ⟨w.heap.size, 1, none⟩ = some (.int .i64 y) := (hb1.cell (by simp <;> omega)).trans (by go_simp)
  have c_m_0 : w1.cell? ⟨w.heap.size + 1, 0, none⟩ = some (.int .i64 64) := (hb1.cell (by simp <;> omega)).trans (by go_simp)
  have c_m_1 : w1.cell? ⟨w.heap.size + 1, 1, none⟩ = some (.int .i64 1) := (hb1.cell (by simp <;> omega)).trans (by go_simp)
  have z_l := World.block_lt_of_cell? _ _ c_l_0
  have z_m := World.block_lt_of_cell? _ _ c_m_0
  have hB1 := below_two hB0 hs1
  clear hB0 hs1 hb1
  rw [h]
  go_wp2_with fail
  have hR' := hR.below hB1
  refine (HC.out _).mono ?_
  rintro e w2 ⟨rfl, hb2⟩
  clear hR'
  have hs2 := hb2
  clear c_m_0
  clear c_m_1
  replace c_l_0 := cell_later hs2 c_l_0
  replace c_l_1 := cell_later hs2 c_l_1
  clear z_l
  have z_l := World.block_lt_of_cell? _ _ c_l_0
  clear z_m
  have hB2 := below_two hB1 hs2
  clear hB1 hs2
  have hR2 := hR.below hB2
  have k0 := hR2.kind 0 (by decide)
  have k1 := hR2.kind 1 (by decide)
  have k2 := hR2.kind 2 (by decide)
  have k3 := hR2.kind 3 (by decide)
  have k4 := hR2.kind 4 (by decide)
  have k5 := hR2.kind 5 (by decide)
  have k6 := hR2.kind 6 (by decide)
  have k7 := hR2.kind 7 (by decide)
  have k8 := hR2.kind 8 (by decide)
  have k9 := hR2.kind 9 (by decide)
  have k10 := hR2.kind 10 (by decide)
  have k11 := hR2.kind 11 (by decide)
  have k12 := hR2.kind 12 (by decide)
  have k13 := hR2.kind 13 (by decide)
  have k14 := hR2.kind 14 (by decide)
  have k15 := hR2.kind 15 (by decide)
  simp only [List.getD_cons_zero, List.getD_cons_succ] at k0 k1 k2 k3 k4 k5 k6 k7 k8 k9 k10 k11 k12 k13 k14 k15
  have zg := World.block_lt_of_cell? _ _ k0
  simp only at zg
  clear hR2
  go_wp2
  go_loopw [25] (fun a wr => SOut x y w a wr) (fun a _ => (4 - intOf a).toNat)
  case atStart => exact ⟨0, rfl, by omega, Lib.hid (fun j hj => by omega), ⟨c_l_0, c_l_1⟩, hB2⟩
  case round =>
    clear c_l_0 c_l_1 z_l hB2 hb2 k0 k1 k2 k3 k4 k5 k6 k7 k8 k9 k10 k11 k12 k13 k14 k15
    obtain ⟨i, rfl, hi, HN, ⟨l0, l1⟩, hB⟩ := hrel
    by_cases hp : i < 4
    · have hx := index_kinds hp
      obtain ⟨p, hpu, hcall⟩ := units_any hm hp
      have HU := Lib.hid hpu
      have HCA := Lib.hid hcall
      clear hpu hcall
      obtain ⟨n, HKN⟩ : ∃ n, Hid (Val.kN i = n) := ⟨_, Lib.hid rfl⟩
      obtain ⟨e, HKE⟩ : ∃ e, Hid (Val.kE i = e) := ⟨_, Lib.hid rfl⟩
      rw [HKN.out, HKE.out] at hx
      have zl := World.block_lt_of_cell? _ _ l0
      go_wp2_with fail
      have hK := V4.new wr 0 0 n e 23
      have l0' := alloc_cell (o := .cells #[.int .i64 0, .int .i64 0, .int .i64 n, .int .i64 e] 23) l0
      have l1' := alloc_cell (o := .cells #[.int .i64 0, .int .i64 0, .int .i64 n, .int .i64 e] 23) l1
      have hB' := alloc_below (o := .cells #[.int .i64 0, .int .i64 0, .int .i64 n, .int .i64 e] 23) hB
      clear l0 l1 hB zl
      have hcall := HCA.out
      rw [HKN.out, HKE.out] at hcall
      cases hu : Val.unI x y i with
      | true =>
        rw [hu, HU.out hu] at hcall
        refine (hcall _).mono ?_
        rintro ed w4 ⟨rfl, hb4⟩
        replace hK := hK.later hb4
        replace hB' := below_two hB' hb4
        clear hb4 hcall l0' l1' HCA
        have hu1 := uI_pos hm hp hu
        have hu2 := (unit_le hm hp).2
        obtain ⟨U, HUU⟩ : ∃ U, Hid (Val.uI x y i = U) := ⟨_, Lib.hid rfl⟩
        rw [HUU.out] at hu1 hu2 ⊢
        obtain ⟨k0, k1, k2, k3⟩ := hK
        go_wp2_with fail
        refine (fill_any 0 0 n e U _ (hR.below hB') hu1 hu2).mono ?_
        rintro ed w5 ⟨⟨v, k, rfl, hF, hk1, hrow⟩, hb5⟩
        have HV : Hid (SplV x y w5 v 0) := Lib.hid (.inr ⟨i, k, hp, by unfold Val.spK; rw [hm, if_pos rfl]; exact Val.fst_found hp HN.out hu, rfl, by rw [HUU.out]; exact hF, hk1, by rw [HUU.out, HKN.out, HKE.out]; exact hrow⟩)
        have hB5 := below_two hB' hb5
        clear k0 k1 k2 k3 hb5 hF hrow hB' hx
        go_wp2
        refine bodyPost_ret (v := .tuple #[v, .int .i64 0]) (by simp [results, Tryz.results30, go_sem]) rfl ⟨⟨_, _, rfl, HV.out⟩, hB5⟩
      | false =>
        rw [hu] at hcall
        refine (hcall _).mono ?_
        rintro ed w4 ⟨rfl, hb4⟩
        have l0 := cell_later hb4 l0'
        have l1 := cell_later hb4 l1'
        have hB := below_two hB' hb4
        clear hb4 hcall l0' l1' HCA hK hB'
        go_wp2
        go_roundw
        case rel => exact ⟨i + 1, by go_num, by omega, Lib.hid (fun j hj => by by_cases e : j = i; (rw [e]; exact hu); exact HN.out j (by omega)), ⟨l0, l1⟩, hB⟩
        case measure => simp [intOf]; omega
    · obtain rfl : i = 4 := by omega
      have HV : Hid (∀ W, SplV x y W (.slice none 0 0) 41) := Lib.hid (fun W => .inl ⟨by unfold Val.spK; rw [hm, if_pos rfl]; exact Val.fst_none HN.out, rfl, rfl⟩)
      go_wp2
      refine bodyPost_ret (v := .tuple #[.slice none 0 0, .int .i64 41]) (by simp [results, Tryz.results30, go_sem]) rfl ⟨⟨_, _, rfl, HV.out _⟩, hB⟩
end Go.Proofs.YtejiifkenanodaaGreatDoor
