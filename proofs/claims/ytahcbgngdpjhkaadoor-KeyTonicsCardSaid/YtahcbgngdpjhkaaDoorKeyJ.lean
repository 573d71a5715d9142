/-
  The iterator over all right keys and their texts; the contract of key.Read.
-/
import Derived.Test.YtahcbgngdpjhkaaDoorKeyI
namespace Go.Proofs.YtahcbgngdpjhkaaDoor
open Go.RowKit Go.Shelf
attribute [local go_sem] Oper.semAt_some

theorem named_any (w : World) : Calls Tryd.prog 45 #[] w fun e w' => e = .returned (.func (.func 60) #[] #[]) ∧ w' = w := by
  go_enter Tryd.func45, Tryd.ntmps45
  go_wp2
  go_ret
  exact ⟨rfl, rfl⟩
abbrev encK (x : Int × Bool) : Array Value := #[ky x.1 x.2, .string ⟨(Key.txE x.1 x.2).toArray⟩]
theorem keys_succ (k : Nat) : Key.upto Key.keyAt (k + 1) = Key.upto Key.keyAt k ++ [Key.keyAt k] := Key.upto_succ _ k
theorem keyAt_even (i : Nat) : Key.keyAt (2 * i) = ((i : Int) - 7, false) := by unfold Key.keyAt; rw [show 2 * i / 2 = i by omega, show 2 * i % 2 = 0 by omega]; rfl
theorem keyAt_odd (i : Nat) : Key.keyAt (2 * i + 1) = ((i : Int) - 7, true) := by unfold Key.keyAt; rw [show (2 * i + 1) / 2 = i by omega, show (2 * i + 1) % 2 = 1 by omega]; rfl
theorem idx0 (w : World) : (Instr.index 88 (.agg #[.bool false, .bool true]) (.int .i64 0)).run Tryd.prog w = .ok (.bool false) w := by kernel_rfl
theorem idx1 (w : World) : (Instr.index 88 (.agg #[.bool false, .bool true]) (.int .i64 1)).run Tryd.prog w = .ok (.bool true) w := by kernel_rfl
def mOf (j : Nat) : Bool := j == 1
theorem keyAt_of (i j : Nat) (h : j < 2) : Key.keyAt (2 * i + j) = ((i : Int) - 7, mOf j) := by
  obtain rfl | rfl : j = 0 ∨ j = 1 := by omega
  · exact keyAt_even i
  · exact keyAt_odd i

set_option maxRecDepth 100000 in
set_option maxHeartbeats 2000000 in
theorem named1_in (n : Nat) (hn : 1 ≤ n) (l : Nat) (w : World) (hR : Lett w) (J Jx : List (Int × Bool) → World → Prop)
    (hY : ∀ pre x W, J pre W → pre.length < 30 → YieldAt Fence.wide (n - 1) Tryd.prog l (encK x) W fun e W' =>
      (e = .returned (.bool true) ∧ J (pre ++ [x]) W' ∧ Below w.heap.size W W') ∨ (e = .returned (.bool false) ∧ Jx (pre ++ [x]) W'))
    (W : World) (hW : Below w.heap.size w W) (hJ : AbidesFrom W.heap.size J) (h0 : J [] W) :
    CallsIn Fence.wide n Tryd.prog 60 #[.func (.yield l) #[] #[]] W fun e W' => (∃ v, e = .returned v) ∧
      ((∃ ys, ys = Key.upto Key.keyAt 30 ∧ J ys W') ∨ (∃ pre, (∃ k, k ≤ 30 ∧ pre = Key.upto Key.keyAt k) ∧ Jx pre W')) := by
  refine callsIn_of_wp Tryd.func60 rfl trivial ?_ rfl
  simp only [Tryd.ntmps60, List.size_toArray, List.length_cons, List.length_nil, Nat.reduceAdd, Nat.reduceSub, Array.replicate_succ, Array.replicate_zero, List.push_toArray, List.append_toArray, List.nil_append, List.cons_append]
  gi_wp2
  gi_loopw [2] (fun i wr => ∃ k : Nat, k ≤ 15 ∧ i = .int .i64 ((k : Int) - 7) ∧ J (Key.upto Key.keyAt (2 * k)) wr ∧ Below w.heap.size w wr)
    (fun i _ => (8 - intOf i).toNat)
  case atStart => exact ⟨0, by omega, by simp, h0, hW⟩
  case round =>
    obtain ⟨k, hk, rfl, hJs, hnx⟩ := hrel
    obtain ⟨x, HX⟩ : ∃ x, Hid ((k : Int) - 7 = x) := ⟨_, Lib.hid rfl⟩
    rw [HX.out]
    by_cases hlt : k < 15
    · have hx0 : -7 ≤ x := by have := HX.out; omega
      have hx1 : x ≤ 7 := by have := HX.out; omega
      gi_wp2
      gi_loopw [13] (fun i wr => ∃ j : Nat, j ≤ 2 ∧ i = .int .i64 (j : Int) ∧ J (Key.upto Key.keyAt (2 * k + j)) wr ∧ Below w.heap.size w wr)
        (fun i _ => (2 - intOf i).toNat)
      case atStart => exact ⟨0, by omega, rfl, hJs, hnx⟩
      case round =>
        obtain ⟨j, hj, rfl, hJj, hnj⟩ := hrel
        have hsz := hnj.size
        have hi0 := idx0
        have hi1 := idx1
        obtain rfl | rfl | rfl : j = 0 ∨ j = 1 ∨ j = 2 := by omega
        · have hbk := hnj.alloc hnj.size (.cells #[.int .i64 x, .bool false] 23)
          have hka : Below wr.heap.size wr (wr.alloc (.cells #[.int .i64 x, .bool false] 23)) := (Below.refl _ _).alloc (Nat.le_refl _) _
          gi_wp2_with fail
          refine ⟨trivial, ?_⟩
          refine (callsIn_wide.2 (text_any x false _ (hR.below hbk))).mono ?_
          rintro e W2 ⟨rfl, hb2⟩
          have hb3 := below_two hka hb2
          have hJ2 := abides_below hJ hJj hb3
          obtain ⟨fn, tmps, assign, body, hy, hRd⟩ := hY _ (x, false) W2 hJ2 (by rw [Key.upto_length]; omega)
          dsimp only [encK] at hy
          have c0 : W2.cell? ⟨wr.heap.size, 0, none⟩ = some (.int .i64 x) := (hb2.cell (by simp)).trans (by go_simp)
          have c1 : W2.cell? ⟨wr.heap.size, 1, none⟩ = some (.bool false) := (hb2.cell (by simp)).trans (by go_simp)
          gi_wp2
          refine hRd.mono ?_
          have hks : Key.upto Key.keyAt (2 * k + 1) = Key.upto Key.keyAt (2 * k + 0) ++ [(x, false)] := by have h1 := keys_succ (2 * k + 0); have h2 := keyAt_of k 0 (by omega); rw [HX.out] at h2; rw [h2] at h1; exact h1
          rintro e W3 (⟨rfl, hJ3, hk3⟩ | ⟨rfl, hJx3⟩)
          · gi_wp2
            go_roundw
            case rel => exact ⟨1, by omega, rfl, by rw [hks]; exact hJ3, (hnj.trans (hb3.mono (by omega))).trans hk3⟩
            case measure => simp [intOf]
          · gi_wp2
            refine bodyPost_ret (results_none rfl _ _ _) rfl ?_
            exact ⟨⟨_, rfl⟩, .inr ⟨_, ⟨2 * k + 1, by omega, hks.symm⟩, hJx3⟩⟩
        · have hbk := hnj.alloc hnj.size (.cells #[.int .i64 x, .bool true] 23)
          have hka : Below wr.heap.size wr (wr.alloc (.cells #[.int .i64 x, .bool true] 23)) := (Below.refl _ _).alloc (Nat.le_refl _) _
          gi_wp2_with fail
          refine ⟨trivial, ?_⟩
          refine (callsIn_wide.2 (text_any x true _ (hR.below hbk))).mono ?_
          rintro e W2 ⟨rfl, hb2⟩
          have hb3 := below_two hka hb2
          have hJ2 := abides_below hJ hJj hb3
          obtain ⟨fn, tmps, assign, body, hy, hRd⟩ := hY _ (x, true) W2 hJ2 (by rw [Key.upto_length]; omega)
          dsimp only [encK] at hy
          have c0 : W2.cell? ⟨wr.heap.size, 0, none⟩ = some (.int .i64 x) := (hb2.cell (by simp)).trans (by go_simp)
          have c1 : W2.cell? ⟨wr.heap.size, 1, none⟩ = some (.bool true) := (hb2.cell (by simp)).trans (by go_simp)
          gi_wp2
          refine hRd.mono ?_
          have hks : Key.upto Key.keyAt (2 * k + 2) = Key.upto Key.keyAt (2 * k + 1) ++ [(x, true)] := by have h1 := keys_succ (2 * k + 1); have h2 := keyAt_of k 1 (by omega); rw [HX.out] at h2; rw [h2] at h1; exact h1
          rintro e W3 (⟨rfl, hJ3, hk3⟩ | ⟨rfl, hJx3⟩)
          · gi_wp2
            go_roundw
            case rel => exact ⟨2, by omega, rfl, by rw [hks]; exact hJ3, (hnj.trans (hb3.mono (by omega))).trans hk3⟩
            case measure => simp [intOf]
          · gi_wp2
            refine bodyPost_ret (results_none rfl _ _ _) rfl ?_
            exact ⟨⟨_, rfl⟩, .inr ⟨_, ⟨2 * k + 2, by omega, hks.symm⟩, hJx3⟩⟩
        · gi_wp2
          go_roundw
          case rel => exact ⟨k + 1, by omega, by have := HX.out; simp; omega, by rw [show 2 * (k + 1) = 2 * k + 2 by omega]; exact hJj, hnj⟩
          case measure => simp [intOf]; omega
    · have hx1 : 7 < x := by have := HX.out; omega
      obtain rfl : k = 15 := by omega
      gi_wp2
      go_end0
      exact ⟨⟨_, rfl⟩, .inl ⟨_, rfl, hJs⟩⟩

/-- THE ITERATOR's CONTRACT: the thirty keys and their texts. -/
theorem named_stops (n : Nat) (hn : 1 ≤ n) (w0 w : World) (hR : Lett w0) (hw : Below w0.heap.size w0 w) :
    SeqStopsK Fence.wide n Tryd.prog 60 #[] encK (Below w0.heap.size) (fun ys => ys = Key.upto Key.keyAt 30) (fun pre => ∃ k, k ≤ 30 ∧ pre = Key.upto Key.keyAt k) 30 w := fun l J Jx W hW hJ _ hY h0 =>
  named1_in n hn l w0 hR J Jx hY W (hw.trans (hW.mono hw.size)) hJ h0

/-- The two results' blocks of Read, as they may be written. -/
structure ResK (W : World) (B C : Nat) : Prop where
  c0 : W.cell? ⟨B, 0, none⟩ = some (heldAt W ⟨B, 0, none⟩)
  c1 : W.cell? ⟨B, 1, none⟩ = some (heldAt W ⟨B, 1, none⟩)
  d0 : W.cell? ⟨C, 0, none⟩ = some (heldAt W ⟨C, 0, none⟩)
  f0 : W.frozen? ⟨B, 0, none⟩ = false
  f1 : W.frozen? ⟨B, 1, none⟩ = false
  g0 : W.frozen? ⟨C, 0, none⟩ = false
theorem ResK.kept {W W' : World} {row : Option Nat} {B C : Nat} (h : ResK W B C) (hg : W.grownBy W' row) (hr : ∀ r, row = some r → ∃ o : Obj, W.heap[r]? = some o ∧ o.isCells = false) : ResK W' B C :=
  ⟨held_of (cell_kept h.c0 hg hr), held_of (cell_kept h.c1 hg hr), held_of (cell_kept h.d0 hg hr), (frozen_kept h.c0 hg hr).trans h.f0, (frozen_kept h.c1 hg hr).trans h.f1, (frozen_kept h.d0 hg hr).trans h.g0⟩
theorem ResK.later {W W' : World} {B C : Nat} (h : ResK W B C) (hb : Below W.heap.size W W') : ResK W' B C := h.kept (grown_of_below hb) (fun _ e => by cases e)
theorem ResK.put {W : World} {B C : Nat} {x y v : Value} (h : ResK W B C) (hBC : B ≠ C) :
    ((put2 W B x y).setCell ⟨C, 0, none⟩ v).cell? ⟨B, 0, none⟩ = some x ∧ ((put2 W B x y).setCell ⟨C, 0, none⟩ v).cell? ⟨B, 1, none⟩ = some y ∧ ((put2 W B x y).setCell ⟨C, 0, none⟩ v).cell? ⟨C, 0, none⟩ = some v ∧ KeepsOthers W ((put2 W B x y).setCell ⟨C, 0, none⟩ v) := by
  obtain ⟨m0, m1⟩ := put2_of (x := x) (y := y) h.c0 h.c1
  exact ⟨set_far hBC m0, set_far hBC m1, set_same (set_held (set_held h.d0)), ((KeepsOthers.setCell _ _ _).trans (KeepsOthers.setCell _ _ _)).trans (KeepsOthers.setCell _ _ _)⟩
theorem keys_prefix {k n : Nat} (h : k ≤ n) : Key.upto Key.keyAt k <+: Key.upto Key.keyAt n := by
  obtain ⟨d, rfl⟩ := Nat.exists_eq_add_of_le h
  clear h
  induction d with
  | zero => exact List.prefix_refl _
  | succ d ih => rw [← Nat.add_assoc, keys_succ]; exact ih.trans (List.prefix_append _ _)
def isK (s : ByteArray) (k : Int × Bool) : Bool := Key.txE k.1 k.2 == s.toList
theorem find_congr {α : Type} {P Q : α → Bool} : ∀ {xs : List α}, (∀ x ∈ xs, P x = Q x) → xs.find? P = xs.find? Q
  | [], _ => rfl
  | x :: xs, h => by rw [List.find?_cons, List.find?_cons, h x (by simp), find_congr (fun y hy => h y (by simp [hy]))]
theorem read_find (s : ByteArray) : (Key.upto Key.keyAt 30).find? (isK s) = Key.rdK s.toList := by
  unfold Key.rdK
  refine find_congr ?_
  intro k hk
  have hb : Key.okF k.1 = true := by
    unfold Key.upto at hk
    obtain ⟨i, hi, rfl⟩ := List.mem_map.1 hk
    have := List.mem_range.1 hi
    exact Key.okF_true (by unfold Key.keyAt; simp only; omega) (by unfold Key.keyAt; simp only; omega)
  unfold isK Key.txE
  rw [if_pos hb]
/-- What Read answers. -/
def rdE (x : Option (Int × Bool)) : Int := match x with | some _ => 0 | none => 30
def rdV (x : Option (Int × Bool)) : Value := kv (x.getD (0, false)).1 (x.getD (0, false)).2 (rdE x)
set_option maxRecDepth 100000 in
set_option maxHeartbeats 4000000 in
theorem read_any (s : ByteArray) (w : World) (hR : Lett w) :
    Calls Tryd.prog 31 #[.string s] w fun e w' => e = .returned (rdV (Key.rdK s.toList)) ∧ Below w.heap.size w w' := by
  refine (callsIn_wide (n := 3)).1 ?_
  refine callsIn_of_wp_marks Tryd.func31 rfl trivial ?_ rfl
  simp only [Tryd.ntmps31, List.size_toArray, List.length_cons, List.length_nil, Nat.reduceAdd, Nat.reduceSub, Array.replicate_succ, Array.replicate_zero, List.push_toArray, List.append_toArray, List.nil_append, List.cons_append]
  gi_wp2_with (refine ⟨trivial, ?_⟩; gi_at_call 45; refine (callsIn_wide.2 (named_any _)).mono ?_; rintro e w' ⟨rfl, rfl⟩)
  have hBw : Below w.heap.size w (((w.alloc (.cells #[.string s] 9)).alloc (.cells #[.int .i64 0, .bool false] 23)).alloc (.cells #[.int .i64 0] 25)) := by repeat (first | exact Below.refl _ _ | refine Below.alloc ?_ (by simp <;> omega) _)
  have c_s : (((w.alloc (.cells #[.string s] 9)).alloc (.cells #[.int .i64 0, .bool false] 23)).alloc (.cells #[.int .i64 0] 25)).cell? ⟨w.heap.size, 0, none⟩ = some (.string s) := by go_simp
  have c_r : ResK (((w.alloc (.cells #[.string s] 9)).alloc (.cells #[.int .i64 0, .bool false] 23)).alloc (.cells #[.int .i64 0] 25)) (w.heap.size + 1) (w.heap.size + 1 + 1) := by constructor <;> first | (refine held_of (v := .int .i64 0) ?_; go_simp; done) | (refine held_of (v := .bool false) ?_; go_simp; done) | (go_simp; done)
  have hsz : (((w.alloc (.cells #[.string s] 9)).alloc (.cells #[.int .i64 0, .bool false] 23)).alloc (.cells #[.int .i64 0] 25)).heap.size = w.heap.size + 3 := by simp
  generalize (((w.alloc (.cells #[.string s] 9)).alloc (.cells #[.int .i64 0, .bool false] 23)).alloc (.cells #[.int .i64 0] 25)) = W0 at *
  refine wpIn_rangeFunc_ownH rfl (by omega) (gf := 60) (lb := #[]) rfl trivial (enters_of Tryd.func60 (by kernel_rfl) rfl)
    (named_stops (3 - 1) (by omega) w W0 hR hBw) belowK_t (belowK_b (by omega)) (Below.refl _ _) (fun _ => rfl)
    (fun pre W => ((∀ y ∈ pre, isK s y = false) ∧ W.cell? ⟨w.heap.size, 0, none⟩ = some (.string s) ∧ ResK W (w.heap.size + 1) (w.heap.size + 1 + 1) ∧ W0.heap.size ≤ W.heap.size) ∧ Below w.heap.size w W)
    (fun c pre W => (c = .ret ∧ ∃ ini last, pre = ini ++ [last] ∧ (∀ y ∈ ini, isK s y = false) ∧ isK s last = true ∧ W.cell? ⟨w.heap.size + 1, 0, none⟩ = some (.int .i64 last.1) ∧ W.cell? ⟨w.heap.size + 1, 1, none⟩ = some (.bool last.2) ∧ W.cell? ⟨w.heap.size + 1 + 1, 0, none⟩ = some (.int .i64 0)) ∧ Below w.heap.size w W)
    (OwnFrom.and (Own.from (fun s A B row hs hg hr => ⟨hs.1, cell_kept hs.2.1 hg hr, hs.2.2.1.kept hg hr, Nat.le_trans hs.2.2.2 hg.size⟩) _) (ownFrom_below (Nat.le_refl _) (by omega)))
    (fun c => OwnFrom.and (Own.from (fun s A B row hs hg hr => by obtain ⟨hc, ini, last, e1, e2, e3, e4, e5, e6⟩ := hs; exact ⟨hc, ini, last, e1, e2, e3, cell_kept e4 hg hr, cell_kept e5 hg hr, cell_kept e6 hg hr⟩) _) (ownFrom_below (Nat.le_refl _) (by omega)))
    ⟨⟨by simp, c_s, c_r, Nat.le_refl _⟩, hBw⟩
    (fun x a' W => ∃ Bx, W.cell? ⟨Bx, 0, none⟩ = some (.int .i64 x.1) ∧ W.cell? ⟨Bx, 1, none⟩ = some (.bool x.2) ∧ a' = { tmps := #[.string s, .pointer (some ⟨w.heap.size, 0, none⟩), .pointer (some ⟨w.heap.size + 1, 0, none⟩), .pointer (some ⟨w.heap.size + 1 + 1, 0, none⟩), .pointer (some ⟨Bx, 0, none⟩), .string ⟨(Key.txE x.1 x.2).toArray⟩, .func (.func 60) #[] #[], ky x.1 x.2, .string ⟨(Key.txE x.1 x.2).toArray⟩, undef, undef, undef, undef, undef], defers := [] })
    (fun x a' s A B row hs hg hr => by obtain ⟨Bx, g1, g2, g3⟩ := hs; exact ⟨Bx, cell_kept g1 hg (fun r e => (hr r e).2), cell_kept g2 hg (fun r e => (hr r e).2), g3⟩) ?assign ?body ?done ?stop
  case assign =>
    rintro l pre ⟨x, y⟩ W K ⟨⟨i1, i2, i3, i5⟩, hB⟩ hK
    gi_wp2
    exact hK _ _ ((KeepsOthers.alloc _ _).from _) ((Below.refl _ W).alloc (by omega) _) ⟨⟨i1, alloc_cell i2, i3.later ((Below.refl _ W).alloc (Nat.le_refl _) _), by simp; omega⟩, hB.alloc hB.size _⟩ ⟨W.heap.size, by go_simp, by go_simp, rfl⟩
  case body =>
    rintro l pre ⟨x, y⟩ a' W hl ⟨r, hr⟩ ⟨⟨i1, i2, i3, i5⟩, hB⟩ ⟨Bx, p0, p1, rfl⟩ hlt
    dsimp only at p0 p1
    obtain ⟨c0, c1, d0, f0, f1, g0⟩ := i3
    have hp := ResK.put (x := .int .i64 x) (y := .bool y) (v := .int .i64 0) ⟨c0, c1, d0, f0, f1, g0⟩ (show w.heap.size + 1 ≠ w.heap.size + 1 + 1 by omega)
    have HPt := Lib.hid hp
    clear hp
    gi_wp2
    · have hx : isK s (x, y) = true := by assumption
      obtain ⟨m0, m1, m2, mk⟩ := HPt.out
      exact ⟨mk.from _, ⟨rfl, pre, (x, y), rfl, i1, hx, m0, m1, m2⟩, set1_below (put2_below hB (by omega)) (by omega)⟩
    · have hx : isK s (x, y) = false := by assumption
      exact ⟨KeepsFrom.refl _ _, Below.refl _ _, ⟨fun z hz => (List.mem_append.1 hz).elim (i1 z) (fun e => by simp at e; subst e; exact hx), i2, ⟨c0, c1, d0, f0, f1, g0⟩, i5⟩, hB⟩
  case done =>
    rintro D ys W hD rfl ⟨⟨i1, i2, i3, i5⟩, hB⟩ hK
    obtain ⟨m0, m1, m2, mk⟩ := i3.put (x := .int .i64 0) (y := .bool false) (v := .int .i64 30) (show w.heap.size + 1 ≠ w.heap.size + 1 + 1 by omega)
    have hK' := mk.same D _ hK rfl
    have HK := Lib.hid hK'
    have M0 := Lib.hid m0
    have M1 := Lib.hid m1
    have M2 := Lib.hid m2
    have MB := Lib.hid (set1_below (x := .int .i64 30) (o := 0) (put2_below (x := .int .i64 0) (y := .bool false) hB (show w.heap.size ≤ w.heap.size + 1 by omega)) (show w.heap.size ≤ w.heap.size + 1 + 1 by omega))
    clear m0 m1 m2 mk hK'
    obtain ⟨c0, c1, d0, f0, f1, g0⟩ := i3
    gi_wp2
    refine ⟨by simp, .inl ⟨_, _, rfl, run_takeDeferred HK.out, ?_⟩⟩
    have hr0 : ∀ r, some D = some r → ∃ o : Obj, (((W.setCell ⟨w.heap.size + 1, 0, none⟩ (.int .i64 0)).setCell ⟨w.heap.size + 1, 1, none⟩ (.bool false)).setCell ⟨w.heap.size + 1 + 1, 0, none⟩ (.int .i64 30)).heap[r]? = some o ∧ o.isCells = false := fun r e => by cases e; exact ⟨_, HK.out, rfl⟩
    have m0 := cell_kept M0.out (grownBy_putObj' _ D (.deferred none)) hr0
    have m1 := cell_kept M1.out (grownBy_putObj' _ D (.deferred none)) hr0
    have m2 := cell_kept M2.out (grownBy_putObj' _ D (.deferred none)) hr0
    have hv : Key.rdK s.toList = none := by rw [← read_find]; exact find_none i1
    refine ⟨kv 0 false 30, ?_, by rw [hv]; rfl, MB.out.trans (belowK_b (w := w) (Nat.le_refl _) _ D _ _ (by omega) HK.out rfl rfl)⟩
    simp [results, Tryd.results31, go_sem, m0, m1, m2]
  case stop =>
    rintro D c pre W hD ⟨k, hk, hpre⟩ ⟨⟨rfl, ini, ⟨x, y⟩, e1, e2, e3, e4, e5, e6⟩, hB⟩ hK
    gi_wp2
    refine ⟨by simp, .inl ⟨_, _, rfl, run_takeDeferred hK, ?_⟩⟩
    have hr0 : ∀ r, some D = some r → ∃ o : Obj, W.heap[r]? = some o ∧ o.isCells = false := fun r e => by cases e; exact ⟨_, hK, rfl⟩
    have m0 := cell_kept e4 (grownBy_putObj' _ D (.deferred none)) hr0
    have m1 := cell_kept e5 (grownBy_putObj' _ D (.deferred none)) hr0
    have m2 := cell_kept e6 (grownBy_putObj' _ D (.deferred none)) hr0
    have hv : Key.rdK s.toList = some (x, y) := by rw [← read_find]; exact find_at (keys_prefix hk) (hpre ▸ e1) e2 e3
    refine ⟨kv x y 0, ?_, by rw [hv]; rfl, hB.trans (belowK_b (w := w) (Nat.le_refl _) W D _ _ (by omega) hK rfl rfl)⟩
    simp [results, Tryd.results31, go_sem, m0, m1, m2]
end Go.Proofs.YtahcbgngdpjhkaaDoor
