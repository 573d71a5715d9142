/-
  The iterator over a right meter's beats: meter.beats and its closure.
-/
import Derived.Test.YtlodhfdikglgoaaMetB
import Derived.RangeFuncNested
import Derived.RangeFuncBound
import Derived.RangeFuncCalls
import Derived.RangeFuncLeaves
import Derived.RangeFuncBox
import Derived.Shelf.Abstract
import Derived.Shelf.RegionOpen
import Derived.OwnWalkIn
import Derived.TacticsInMore
import Derived.LoopNIn
import Derived.LoopIn
namespace Go.Proofs.Ytlodhfdikglgoaa
open Go.RowKit Go.Shelf
attribute [local go_sem] Oper.semAt_some

theorem grown_of_below {W W' : World} (h : Below W.heap.size W W') : W.grownBy W' none := ⟨h.os, h.tape, h.output, h.size, fun k hk _ => h.block k hk⟩
theorem abides_below {β : Type} {B : Nat} {J : β → World → Prop} (hJ : AbidesFrom B J) {s : β} {W W' : World} (h : J s W) (hb : Below W.heap.size W W') : J s W' :=
  hJ s W W' none h (grown_of_below hb) (fun _ e => by cases e)
theorem others_below {W W' : World} (h : Below W.heap.size W W') : KeepsOthers W W' := KeepsOthers.of_grownBy (grown_of_below h) (fun _ _ e => by cases e)
theorem kI_b {n₀ : Nat} {w : World} (hn : n₀ ≤ w.heap.size) (W : World) (l : Nat) (o o' : Obj) (hl : w.heap.size ≤ l) (h : W.heap[l]? = some o) (hc : o.isCells = false) (hw : o.isWalk = false) : KI n₀ W (W.putObj l o') :=
  ⟨belowK_b hn W l o o' hl h hc hw, fun k cur t f _ hk => by
    by_cases e : k = l
    · subst e; rw [h] at hk; cases hk; cases hc
    · exact (World.putObj_heap_other e).trans hk⟩

theorem groups_any (n₀ : Nat) (n d : Int) (v : Value) (gs : List Int) (w : World) (hI : IntsK n₀ w v gs) (hr : Met.right n d gs = true) :
    Calls Try.prog 57 #[mt n d v] w fun ed w' => (∃ u, ed = .returned u ∧ IntsK n₀ w' u (Met.grp n d gs)) ∧ Below w.heap.size w w' := by
  by_cases h : gs.length = 0
  · have h1 := Met.isRight hr
    have n1 := h1.n1
    have n32 := h1.n32
    have he : Met.each n d = 1 ∨ Met.each n d = 3 := by rcases Met.each_cases n d with ⟨e, _⟩ | ⟨e, _⟩ <;> simp [e]
    have hg : Met.grp n d gs = List.replicate (n / Met.each n d).toNat (Met.each n d) := by unfold Met.grp; rw [if_pos h]
    rw [hg]
    obtain ⟨p, cap, hv, _, _⟩ := hI
    have hb : 0 ≤ n / Met.each n d ∧ n / Met.each n d ≤ 32 := by rcases he with e | e <;> rw [e] <;> omega
    exact groups_new n₀ n d _ _ v w n1 n32 he (Lib.hid rfl) (by omega) (by omega) ⟨p, cap, by rw [hv, h]⟩
  · exact groups_own n₀ n d v gs w hI h

theorem beatsF_any (n d : Int) (v : Value) (w : World) :
    Calls Try.prog 33 #[mt n d v] w fun e w' => e = .returned (.func (.func 56) #[] #[.pointer (some ⟨w.heap.size, 0, none⟩)]) ∧ w' = w.alloc (.cells #[.int .i64 n, .int .i64 d, v] 24) := by
  go_enter Try.func33, Try.ntmps33
  go_wp2
  go_ret
  exact ⟨rfl, rfl⟩

abbrev encB (x : Met.Pr) : Array Value := #[rp x]
theorem bts_take {d : Int} {l : List Int} {k : Nat} (h : k < l.length) : (Met.bts d l).take (k + 1) = (Met.bts d l).take k ++ [Met.of (Met.ah l k) d] := Met.take_succ_at (Met.bts_at h)

set_option maxRecDepth 100000 in
set_option maxHeartbeats 4000000 in
theorem beats1_in (n : Nat) (hn : 1 ≤ n) (l B n₀ : Nat) (q d : Int) (v : Value) (gs : List Int) (hr : Met.right q d gs = true) (J Jx : List Met.Pr → World → Prop)
    (hY : ∀ pre x W, J pre W → pre.length < (Met.grp q d gs).length → YieldAt Fence.wide (n - 1) Try.prog l (encB x) W fun e W' =>
      (e = .returned (.bool true) ∧ J (pre ++ [x]) W' ∧ KI n₀ W W') ∨ (e = .returned (.bool false) ∧ Jx (pre ++ [x]) W'))
    (W : World) (hn₀ : n₀ ≤ W.heap.size) (hJ : AbidesFrom W.heap.size J) (hbx : W.heap[B]? = some (.cells #[.int .i64 q, .int .i64 d, v] 24 (0, 0))) (hI : IntsK n₀ W v gs) (h0 : J [] W) :
    CallsIn Fence.wide n Try.prog 56 #[.func (.yield l) #[] #[], .pointer (some ⟨B, 0, none⟩)] W fun e W' => (∃ v, e = .returned v) ∧
      ((∃ ys, ys = Met.bt q d gs ∧ J ys W') ∨ (∃ pre, (∃ k, k ≤ (Met.grp q d gs).length ∧ pre = (Met.bt q d gs).take k) ∧ Jx pre W')) := by
  have c0 : W.cell? ⟨B, 0, none⟩ = some (.int .i64 q) := cell_of_cells hbx rfl
  have c1 : W.cell? ⟨B, 1, none⟩ = some (.int .i64 d) := cell_of_cells hbx rfl
  have c2 : W.cell? ⟨B, 2, none⟩ = some v := cell_of_cells hbx rfl
  have HBX := Lib.hid hbx
  clear hbx
  have hR := Met.isRight hr
  have n32 := hR.n32
  have d1 := hR.d1
  have d64 := hR.d64
  have HG : Hid (∀ k x, (Met.grp q d gs)[k]? = some x → 1 ≤ x ∧ Met.ah (Met.grp q d gs) k + x ≤ q) := Lib.hid fun k x h => hR.g_bounds h
  have HA : Hid (∀ k, k < (Met.grp q d gs).length → 0 ≤ Met.ah (Met.grp q d gs) k ∧ Met.ah (Met.grp q d gs) k < q) := Lib.hid fun k h => hR.ah_bounds h
  have hlen := hR.len
  unfold Met.bt
  have hGr := groups_any n₀ q d v gs W hI hr
  obtain ⟨p0, cap0, rfl, hl0, hc0⟩ := hI
  have HGR := Lib.hid hGr
  clear hGr hl0 hc0 hr hR
  generalize Met.grp q d gs = G at *
  refine callsIn_of_wp Try.func56 rfl trivial ?_ rfl
  simp only [Try.ntmps56, List.size_toArray, List.length_cons, List.length_nil, Nat.reduceAdd, Nat.reduceSub, Array.replicate_succ, Array.replicate_zero, List.push_toArray, List.append_toArray, List.nil_append, List.cons_append]
  gi_wp2_with (refine ⟨trivial, ?_⟩; gi_at_call 57; refine (callsIn_wide.2 HGR.out).mono ?_; rintro e W2 ⟨⟨u, rfl, hI2⟩, hb2⟩; clear HGR; obtain ⟨p, cap, rfl, hl, hc⟩ := hI2)
  have HIK : Hid (IntsK n₀ W2 (.slice p G.length cap) G) := Lib.hid ⟨p, cap, rfl, hl, hc⟩
  have HBX2 := Lib.hid ((hb2.block B (Array.getElem?_eq_some_iff.1 HBX.out).1).trans HBX.out)
  have hJ0 := abides_below hJ h0 hb2
  have hn2 : n₀ ≤ W2.heap.size := Nat.le_trans hn₀ hb2.size
  clear hc hl c0 c1 c2 h0 hb2
  obtain ⟨hlen1, hlen2⟩ := hlen
  gi_loopw [3, 11] (fun a i wr => ∃ k : Nat, k ≤ G.length ∧ i = .int .i64 (k : Int) ∧ a = .int .i64 (Met.ah G k) ∧ J ((Met.bts d G).take k) wr ∧ Hid (IntsK n₀ wr (.slice p G.length cap) G) ∧ Hid (wr.heap[B]? = some (.cells #[.int .i64 q, .int .i64 d, .slice p0 gs.length cap0] 24 (0, 0))) ∧ n₀ ≤ wr.heap.size)
    (fun _ i _ => G.length - (intOf i).toNat)
  case atStart => exact ⟨0, Nat.zero_le _, rfl, rfl, hJ0, HIK, HBX2, hn2⟩
  case round =>
    clear hJ0 HIK HBX HBX2 hn2
    obtain ⟨k, hk, rfl, rfl, hJs, HIK, HBX, hn2⟩ := hrel
    have c1 : wr.cell? ⟨B, 1, none⟩ = some (.int .i64 d) := cell_of_cells HBX.out rfl
    obtain ⟨A, HAe⟩ : ∃ A, Hid (Met.ah G k = A) := ⟨_, Lib.hid rfl⟩
    rw [HAe.out]
    by_cases hlt : k < G.length
    · obtain ⟨x, hx⟩ : ∃ x, G[k]? = some x := ⟨_, List.getElem?_eq_getElem hlt⟩
      obtain ⟨hA0, hA1⟩ := HA.out k hlt
      obtain ⟨hx1, hx2⟩ := HG.out k x hx
      rw [HAe.out] at hA0 hA1 hx2
      obtain ⟨p', cap', e1, _, hc⟩ := HIK.out
      cases e1
      obtain ⟨b, o, rfl, hcell, _⟩ := hc k x hx
      have HX := Lib.hid hx
      clear hc hx
      have hlx : ((Met.bts d G).take k).length = k := by rw [List.length_take, Met.bts_length]; omega
      gi_wp2_with fail
      refine ⟨trivial, ?_⟩
      refine (callsIn_wide.2 (ofP_any (n := A) (d := d) (by omega) (by omega) (by omega) (by omega) wr)).mono ?_
      rintro e W3 ⟨rfl, hb3⟩
      obtain ⟨X, HXX⟩ : ∃ X, Hid (Met.of A d = X) := ⟨_, Lib.hid rfl⟩
      rw [HXX.out]
      obtain ⟨x0, y0⟩ := X
      dsimp only
      have hb4 := hb3.alloc hb3.size (.cells #[.int .i64 x0, .int .i64 y0] 26)
      have hJ4 := abides_below hJ hJs hb4
      have hIK4 := HIK.out.later hb4
      have c4 := (hb4.block B (Array.getElem?_eq_some_iff.1 HBX.out).1).trans HBX.out
      have hs4 := hb4.size
      obtain ⟨fn, tmps, assign, body, hy, hRd⟩ := hY _ (x0, y0) _ hJ4 (by rw [hlx]; exact hlt)
      dsimp only [encB] at hy
      have HI4 := Lib.hid hIK4
      have HC4 := Lib.hid c4
      have HS4 := Lib.hid hs4
      clear hIK4 c4 hs4 HIK HBX hJs hJ4 hb4 hcell c1
      gi_wp2
      refine hRd.mono ?_
      have hks : (Met.bts d G).take (k + 1) = (Met.bts d G).take k ++ [(x0, y0)] := by rw [bts_take hlt, HAe.out, HXX.out]
      rintro e W5 (⟨rfl, hJ5, hk5⟩ | ⟨rfl, hJx5⟩)
      · gi_wp2
        go_roundw
        case rel => exact ⟨k + 1, by omega, by go_num, by rw [Met.ah_succ HX.out, HAe.out], by rw [hks]; exact hJ5, Lib.hid (HI4.out.kept hk5), Lib.hid (hk5.typed B _ _ _ (.inr rfl) HC4.out), Nat.le_trans (Nat.le_trans hn2 HS4.out) hk5.below.size⟩
        case measure => simp [intOf]; omega
      · gi_wp2
        refine bodyPost_ret (results_none rfl _ _ _) rfl ?_
        exact ⟨⟨_, rfl⟩, .inr ⟨_, ⟨k + 1, by omega, hks.symm⟩, hJx5⟩⟩
    · obtain rfl : k = G.length := by omega
      have hks : (Met.bts d G).take G.length = Met.bts d G := by rw [← Met.bts_length d G, List.take_length]
      rw [hks] at hJs
      gi_wp2
      go_end0
      exact ⟨⟨_, rfl⟩, .inl ⟨_, rfl, hJs⟩⟩

/-- THE ITERATOR's CONTRACT: the beats. -/
theorem beats_stops (n : Nat) (hn : 1 ≤ n) (B n₀ : Nat) (q d : Int) (v : Value) (gs : List Int) (hr : Met.right q d gs = true) (w : World) (hn₀ : n₀ ≤ w.heap.size)
    (hbx : w.heap[B]? = some (.cells #[.int .i64 q, .int .i64 d, v] 24 (0, 0))) (hI : IntsK n₀ w v gs) :
    SeqStopsK Fence.wide n Try.prog 56 #[.pointer (some ⟨B, 0, none⟩)] encB (KI n₀) (fun ys => ys = Met.bt q d gs) (fun pre => ∃ k, k ≤ (Met.grp q d gs).length ∧ pre = (Met.bt q d gs).take k) (Met.grp q d gs).length w := fun l J Jx W hW hJ _ hY h0 =>
  beats1_in n hn l B n₀ q d v gs hr J Jx hY W (Nat.le_trans hn₀ hW.size) hJ ((hW.block B (Array.getElem?_eq_some_iff.1 hbx).1).trans hbx) (hI.later hW) h0
end Go.Proofs.Ytlodhfdikglgoaa
