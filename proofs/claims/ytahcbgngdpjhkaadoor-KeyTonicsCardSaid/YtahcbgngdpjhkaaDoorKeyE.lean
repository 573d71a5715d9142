/-
  The iterator over the line of fifths: key.line and its closure.
-/
import Derived.Test.YtahcbgngdpjhkaaDoorKeyD
import Derived.RangeFuncNested
import Derived.RangeFuncBound
import Derived.RangeFuncCalls
import Derived.RangeFuncLeaves
import Derived.RangeFuncBox
import Derived.Shelf.Abstract
import Derived.Shelf.RegionOpen
import Derived.OwnWalkIn
import Derived.TacticsInMore
import Derived.LoopNIn
import Derived.LoopIn
namespace Go.Proofs.YtahcbgngdpjhkaaDoor
open Go.RowKit Go.Shelf
attribute [local go_sem] Oper.semAt_some

theorem grown_of_below {W W' : World} (h : Below W.heap.size W W') : W.grownBy W' none := ⟨h.os, h.tape, h.output, h.size, fun k hk _ => h.block k hk⟩
theorem abides_below {β : Type} {B : Nat} {J : β → World → Prop} (hJ : AbidesFrom B J) {s : β} {W W' : World} (h : J s W) (hb : Below W.heap.size W W') : J s W' :=
  hJ s W W' none h (grown_of_below hb) (fun _ e => by cases e)
theorem others_below {W W' : World} (h : Below W.heap.size W W') : KeepsOthers W W' := KeepsOthers.of_grownBy (grown_of_below h) (fun _ _ e => by cases e)

set_option maxHeartbeats 1000000 in
theorem lineF_any (a b : Int) (w : World) :
    Calls Tryd.prog 57 #[.int .i64 a, .int .i64 b] w fun e w' => e = .returned (.func (.func 67) #[] #[.pointer (some ⟨w.heap.size, 0, none⟩), .pointer (some ⟨w.heap.size + 1, 0, none⟩)]) ∧ w' = (w.alloc (.cells #[.int .i64 a] 3)).alloc (.cells #[.int .i64 b] 3) := by
  go_enter Tryd.func57, Tryd.ntmps57
  go_wp2
  go_ret
  exact ⟨rfl, rfl⟩

abbrev encP (x : Int) : Array Value := #[pt (Key.st x) (Key.al x) 4]
theorem places_succ (a : Int) (k : Nat) : Key.places a (k + 1) = Key.places a k ++ [a + (k : Int)] := Key.upto_succ _ k

set_option maxRecDepth 100000 in
set_option maxHeartbeats 2000000 in
theorem line1_in (n : Nat) (hn : 1 ≤ n) (l B1 B2 n₀ : Nat) (a b : Int) (N : Nat) (ha : -20 ≤ a) (hb : b ≤ 20) (HAB : Hid (b = a + (N : Int) - 1)) (hB2 : B2 < n₀) (J Jx : List Int → World → Prop)
    (hY : ∀ pre x W, J pre W → pre.length < N → YieldAt Fence.wide (n - 1) Tryd.prog l (encP x) W fun e W' =>
      (e = .returned (.bool true) ∧ J (pre ++ [x]) W' ∧ Below n₀ W W') ∨ (e = .returned (.bool false) ∧ Jx (pre ++ [x]) W'))
    (W : World) (hn₀ : n₀ ≤ W.heap.size) (hJ : AbidesFrom W.heap.size J) (c1 : W.cell? ⟨B1, 0, none⟩ = some (.int .i64 a)) (c2 : W.cell? ⟨B2, 0, none⟩ = some (.int .i64 b)) (h0 : J [] W) :
    CallsIn Fence.wide n Tryd.prog 67 #[.func (.yield l) #[] #[], .pointer (some ⟨B1, 0, none⟩), .pointer (some ⟨B2, 0, none⟩)] W fun e W' => (∃ v, e = .returned v) ∧
      ((∃ ys, ys = Key.places a N ∧ J ys W') ∨ (∃ pre, (∃ k, k ≤ N ∧ pre = Key.places a k) ∧ Jx pre W')) := by
  refine callsIn_of_wp Tryd.func67 rfl trivial ?_ rfl
  simp only [Tryd.ntmps67, List.size_toArray, List.length_cons, List.length_nil, Nat.reduceAdd, Nat.reduceSub, Array.replicate_succ, Array.replicate_zero, List.push_toArray, List.append_toArray, List.nil_append, List.cons_append]
  gi_wp2
  gi_loopw [4] (fun i wr => ∃ k : Nat, k ≤ N ∧ i = .int .i64 (a + (k : Int)) ∧ J (Key.places a k) wr ∧ Below n₀ W wr)
    (fun i _ => (b + 1 - intOf i).toNat)
  case atStart => exact ⟨0, Nat.zero_le _, by simp, h0, Below.refl _ _⟩
  case round =>
    obtain ⟨k, hk, rfl, hJs, hnx⟩ := hrel
    have c2' : wr.cell? ⟨B2, 0, none⟩ = some (.int .i64 b) := (hnx.cell (p := ⟨B2, 0, none⟩) hB2).trans c2
    have hsz := hnx.size
    obtain ⟨x, HX⟩ : ∃ x, Hid (a + (k : Int) = x) := ⟨_, Lib.hid rfl⟩
    rw [HX.out]
    have hlx : (Key.places a k).length = k := Key.upto_length _ k
    by_cases hlt : k < N
    · have hle : x ≤ b := by have := HX.out; have := HAB.out; omega
      have hx0 : -20 ≤ x := by have := HX.out; omega
      gi_wp2_with (refine ⟨trivial, ?_⟩; gi_at_call 50; refine (callsIn_wide.2 (fifth_any x _ (by omega) (by omega))).mono ?_; rintro e W2 ⟨rfl, hb2⟩; have hJ2 := abides_below hJ hJs hb2; obtain ⟨fn, tmps, assign, body, hy, hR⟩ := hY _ x W2 hJ2 (by rw [hlx]; exact hlt))
      refine hR.mono ?_
      rintro e W3 (⟨rfl, hJ3, hk3⟩ | ⟨rfl, hJx3⟩)
      · gi_wp2
        go_roundw
        case rel => exact ⟨k + 1, by omega, by have := HX.out; simp; omega, by rw [places_succ, HX.out]; exact hJ3, hnx.trans ((hb2.mono (by omega)).trans hk3)⟩
        case measure => simp [intOf]; omega
      · gi_wp2
        refine bodyPost_ret (results_none rfl _ _ _) rfl ?_
        exact ⟨⟨_, rfl⟩, .inr ⟨_, ⟨k + 1, by omega, by rw [places_succ, HX.out]⟩, hJx3⟩⟩
    · have hgt : b < x := by have := HX.out; have := HAB.out; omega
      obtain rfl : k = N := by omega
      gi_wp2
      go_end0
      exact ⟨⟨_, rfl⟩, .inl ⟨_, rfl, hJs⟩⟩

/-- THE ITERATOR's CONTRACT: the places from a to b. -/
theorem line_stops (n : Nat) (hn : 1 ≤ n) (B1 B2 n₀ : Nat) (a b : Int) (N : Nat) (ha : -20 ≤ a) (hb : b ≤ 20) (HAB : Hid (b = a + (N : Int) - 1)) (hB2 : B2 < n₀) (w : World) (hn₀ : n₀ ≤ w.heap.size)
    (c1 : w.cell? ⟨B1, 0, none⟩ = some (.int .i64 a)) (c2 : w.cell? ⟨B2, 0, none⟩ = some (.int .i64 b)) :
    SeqStopsK Fence.wide n Tryd.prog 67 #[.pointer (some ⟨B1, 0, none⟩), .pointer (some ⟨B2, 0, none⟩)] encP (Below n₀) (fun ys => ys = Key.places a N) (fun pre => ∃ k, k ≤ N ∧ pre = Key.places a k) N w := fun l J Jx W hW hJ _ hY h0 =>
  line1_in n hn l B1 B2 n₀ a b N ha hb HAB hB2 J Jx hY W (Nat.le_trans hn₀ hW.size) hJ (cell_later hW c1) (cell_later hW c2) h0
end Go.Proofs.YtahcbgngdpjhkaaDoor
