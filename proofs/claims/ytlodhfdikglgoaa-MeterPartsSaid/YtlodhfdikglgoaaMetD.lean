/-
  The contracts of meter.Beats and meter.onBeat.
-/
import Derived.Test.YtlodhfdikglgoaaMetC
import Derived.Maps.AppendAt
namespace Go.Proofs.Ytlodhfdikglgoaa
open Go.RowKit Go.Shelf
attribute [local go_sem] Oper.semAt_some

set_option maxRecDepth 100000 in
set_option maxHeartbeats 4000000 in
theorem mbeats_no (q d : Int) (v : Value) (gs : List Int) (w : World) (hI : Ints w v gs) (hr : Met.right q d gs = false) :
    Calls Try.prog 14 #[mt q d v] w fun ed w' => ed = .returned (.tuple #[.slice none 0 0, .int .i64 50]) ∧ Below w.heap.size w w' := by
  obtain ⟨p, cap, rfl, hl, hc⟩ := hI
  have HI : Hid (Ints w (.slice p gs.length cap) gs) := Lib.hid ⟨p, cap, rfl, hl, hc⟩
  clear hl hc
  have hB0 : Below w.heap.size w w := Below.refl _ _
  go_enter Try.func14, Try.ntmps14
  go_wp2_with fail
  have hs1 : Below w.heap.size w (w.alloc (.cells #[.int .i64 q, .int .i64 d, .slice p gs.length cap] 24)) := by repeat (first | exact Below.refl _ _ | refine Below.alloc ?_ (by simp <;> omega) _)
  have c_m_0 : (w.alloc (.cells #[.int .i64 q, .int .i64 d, .slice p gs.length cap] 24)).cell? ⟨w.heap.size, 0, none⟩ = some (.int .i64 q) := by go_simp
  have c_m_1 : (w.alloc (.cells #[.int .i64 q, .int .i64 d, .slice p gs.length cap] 24)).cell? ⟨w.heap.size, 1, none⟩ = some (.int .i64 d) := by go_simp
  have c_m_2 : (w.alloc (.cells #[.int .i64 q, .int .i64 d, .slice p gs.length cap] 24)).cell? ⟨w.heap.size, 2, none⟩ = some (.slice p gs.length cap) := by go_simp
  have hB1 := below_two hB0 hs1
  clear hB0 hs1
  generalize (w.alloc (.cells #[.int .i64 q, .int .i64 d, .slice p gs.length cap] 24)) = w1 at *
  have z_m := World.block_lt_of_cell? _ _ c_m_0
  have HI1 := Lib.hid (HI.out.later hB1)
  clear HI
  go_wp2_with fail
  refine (mright_is HI1.out hr).mono ?_
  rintro e w2 ⟨rfl, hb2⟩
  have hs2 := hb2
  replace c_m_0 := cell_later hs2 c_m_0
  replace c_m_1 := cell_later hs2 c_m_1
  replace c_m_2 := cell_later hs2 c_m_2
  clear z_m
  have z_m := World.block_lt_of_cell? _ _ c_m_0
  have hB2 := below_two hB1 hs2
  clear hB1 hs2
  go_wp2
  go_ret2
  exact ⟨rfl, hB2⟩

theorem cells2_new (w : World) (t : TypeId) (x y : Value) {n : Nat} (hn : w.heap.size = n) : ∀ (jj : Nat) (u : Value), [x, y][jj]? = some u → (w.alloc (.cells #[x, y] t)).cell? (Addr.add ⟨n, 0, none⟩ jj) = some u := by
  subst hn
  intro jj u hu
  rcases jj with _ | _ | jj
  · simp at hu; subst hu; simp [Addr.add]
  · simp at hu; subst hu; simp [Addr.add]
  · simp at hu
theorem one_cell2 (x y : Int) : ∀ u ∈ [Value.int .i64 x, Value.int .i64 y], u.oneCell' = true := by
  intro u hu; simp at hu; rcases hu with rfl | rfl <;> rfl
/-- A row's own block is no row of numbers, and no meter. -/
theorem KI.appended {W w1 : World} {n₀ B size k : Nat} {v v' : Value} {xs : List Value} {tmp : Obj} (hv : Boxed W B 33 v) (hrow : W.ownsRow n₀ 26 size v k xs) (hgrow : (W.alloc tmp).grownBy w1 v.ownBlock) (hb : Below n₀ W (w1.setCell ⟨B, 0, none⟩ v')) : KI n₀ W (w1.setCell ⟨B, 0, none⟩ v') :=
  ⟨hb, fun j cur t f ht hj => by
    have hlt := (Array.getElem?_eq_some_iff.1 hj).1
    have h1 : j ≠ B := by
      rintro rfl
      have := (show W.heap[j]? = _ from hv).symm.trans hj
      simp at this
      rcases ht with rfl | rfl <;> exact absurd this.2.1 (by decide)
    have h2 : some j ≠ v.ownBlock := by
      rcases hrow.2 with ⟨rfl, _⟩ | ⟨g, cap, cur', rfl, _, hgb, _⟩
      · simp [Value.ownBlock]
      · intro e'
        obtain rfl : j = g := by simpa [Value.ownBlock] using e'
        have := hgb.symm.trans hj
        simp at this
        rcases ht with rfl | rfl <;> exact absurd this.2.1 (by decide)
    rw [Below.heap_setCell _ _ _ _ h1, hgrow.block j (by simp; omega) h2, Below.heap_alloc _ _ _ hlt]
    exact hj⟩

set_option maxRecDepth 100000 in
set_option maxHeartbeats 4000000 in
theorem mbeats_yes (q d : Int) (v : Value) (gs : List Int) (w : World) (hI : Ints w v gs) (hr : Met.right q d gs = true) :
    Calls Try.prog 14 #[mt q d v] w fun ed w' => (∃ u, ed = .returned (.tuple #[u, .int .i64 0]) ∧ Prs w' u (Met.bt q d gs)) ∧ Below w.heap.size w w' := by
  obtain ⟨p, cap, rfl, hl, hc⟩ := hI
  have HI : Hid (Ints w (.slice p gs.length cap) gs) := Lib.hid ⟨p, cap, rfl, hl, hc⟩
  clear hl hc
  have hbw : Below w.heap.size w (w.alloc (.cells #[.int .i64 q, .int .i64 d, .slice p gs.length cap] 24)) := (Below.refl _ _).alloc (Nat.le_refl _) _
  have HI1 := Lib.hid (HI.out.later hbw)
  have hlen := (Met.isRight hr).len
  obtain ⟨i0, hi, hz0, hz1, hz2⟩ := info_parts infoR
  refine (callsIn_wide (n := 3)).1 ?_
  refine callsIn_of_wp_marks Try.func14 rfl trivial ?_ rfl
  simp only [Try.ntmps14, List.size_toArray, List.length_cons, List.length_nil, Nat.reduceAdd, Nat.reduceSub, Array.replicate_succ, Array.replicate_zero, List.push_toArray, List.append_toArray, List.nil_append, List.cons_append]
  gi_wp2_with fail
  refine ⟨trivial, ?_⟩
  refine (callsIn_wide.2 (mright_is HI1.out hr)).mono ?_
  rintro e w2 ⟨rfl, hb2⟩
  have hB2 := below_two hbw hb2
  have HI2 : Hid (IntsK w.heap.size w2 (.slice p gs.length cap) gs) := Lib.hid ((HI.out.fix (Nat.le_refl _)).later hB2)
  have c0 : w2.cell? ⟨w.heap.size, 0, none⟩ = some (.int .i64 q) := (hb2.cell (by simp)).trans (by go_simp)
  have c1 : w2.cell? ⟨w.heap.size, 1, none⟩ = some (.int .i64 d) := (hb2.cell (by simp)).trans (by go_simp)
  have c2 : w2.cell? ⟨w.heap.size, 2, none⟩ = some (.slice p gs.length cap) := (hb2.cell (by simp)).trans (by go_simp)
  have z2 := World.block_lt_of_cell? _ _ c0
  clear HI HI1 hb2 hbw
  gi_wp2_with (refine ⟨trivial, ?_⟩; gi_at_call 33; refine (callsIn_wide.2 (beatsF_any q d _ _)).mono ?_; rintro e w' ⟨rfl, rfl⟩)
  have hb0 : Below w2.heap.size w2 ((w2.alloc (.cells #[.slice none 0 0] 33)).alloc (.cells #[.int .i64 q, .int .i64 d, .slice p gs.length cap] 24)) := ((Below.refl _ _).alloc (Nat.le_refl _) _).alloc (by simp) _
  have hBw : Below w.heap.size w ((w2.alloc (.cells #[.slice none 0 0] 33)).alloc (.cells #[.int .i64 q, .int .i64 d, .slice p gs.length cap] 24)) := below_two hB2 hb0
  have hbx : ((w2.alloc (.cells #[.slice none 0 0] 33)).alloc (.cells #[.int .i64 q, .int .i64 d, .slice p gs.length cap] 24)).heap[w2.heap.size + 1]? = some (.cells #[.int .i64 q, .int .i64 d, .slice p gs.length cap] 24 (0, 0)) := by
    have := World.alloc_heap_new (w2.alloc (.cells #[.slice none 0 0] 33)) (.cells #[.int .i64 q, .int .i64 d, .slice p gs.length cap] 24)
    rwa [World.size_alloc] at this
  have bA : Boxed ((w2.alloc (.cells #[.slice none 0 0] 33)).alloc (.cells #[.int .i64 q, .int .i64 d, .slice p gs.length cap] 24)) w2.heap.size 33 (.slice none 0 0) := (Boxed.new w2 33 (.slice none 0 0)).alloc _
  have HI0 := Lib.hid (HI2.out.later hb0)
  have hsz : ((w2.alloc (.cells #[.slice none 0 0] 33)).alloc (.cells #[.int .i64 q, .int .i64 d, .slice p gs.length cap] 24)).heap.size = w2.heap.size + 2 := by simp
  have hz : w.heap.size < w2.heap.size := z2
  clear c0 c1 c2 z2 HI2 hB2 hb0
  generalize ((w2.alloc (.cells #[.slice none 0 0] 33)).alloc (.cells #[.int .i64 q, .int .i64 d, .slice p gs.length cap] 24)) = W0 at *
  refine wpIn_rangeFunc_ownH rfl (by omega) (gf := 56) (lb := #[.pointer (some ⟨w2.heap.size + 1, 0, none⟩)]) rfl trivial (enters_of Try.func56 (by kernel_rfl) rfl)
    (beats_stops (3 - 1) (by omega) (w2.heap.size + 1) w.heap.size q d _ gs hr W0 (by omega) hbx HI0.out)
    KI.trans (kI_b (by omega)) (Below.refl _ _) (fun _ => rfl)
    (fun pre W => ((∃ u, Boxed W w2.heap.size 33 u ∧ W.ownsRow w.heap.size 26 2 u pre.length (rowP pre) ∧ True) ∧ W0.heap.size ≤ W.heap.size) ∧ Below w.heap.size w W)
    (fun _ _ _ => False)
    (OwnFrom.and (OwnFrom.and (Own.from (holdsRow_own w.heap.size w2.heap.size 33 26 2 (fun pre => pre.length) (fun pre => rowP pre) (fun _ _ => True)) _) (Own.from (fun s A B row hs hg hr => Nat.le_trans hs hg.size) _)) (ownFrom_below (Nat.le_refl _) (by omega)))
    (fun c => Own.from (fun s A B row hs hg hr => hs) _)
    ⟨⟨⟨_, bA, World.ownsRow_nil _ _ _ _, trivial⟩, Nat.le_refl _⟩, hBw⟩
    (fun x a' W => ∃ Bx, (W.cell? ⟨Bx, 0, none⟩ = some (.int .i64 x.1) ∧ W.cell? ⟨Bx, 1, none⟩ = some (.int .i64 x.2)) ∧ a' = { tmps := #[mt q d (.slice p gs.length cap), .pointer (some ⟨w.heap.size, 0, none⟩), .slice none 0 0, .int .i64 0, .pointer (some ⟨w2.heap.size, 0, none⟩), .pointer (some ⟨Bx, 0, none⟩), mt q d (.slice p gs.length cap), .bool true, .bool false, mt q d (.slice p gs.length cap), .func (.func 56) #[] #[.pointer (some ⟨w2.heap.size + 1, 0, none⟩)], rp x, undef, undef, undef, undef, undef], defers := [] })
    (fun x a' s A B row hs hg hr => by obtain ⟨Bx, g2, g3⟩ := hs; exact ⟨Bx, ⟨cell_kept g2.1 hg (fun r e => (hr r e).2), cell_kept g2.2 hg (fun r e => (hr r e).2)⟩, g3⟩) ?assign ?body ?done ?stop
  case assign =>
    rintro l pre x W K ⟨⟨⟨u, bU, rU, _⟩, i5⟩, hB⟩ hK
    gi_wp2
    exact hK _ _ ((KeepsOthers.alloc _ _).from _) (KI.of_below ((Below.refl _ W).alloc (Nat.le_refl _) _) hB.size) ⟨⟨⟨u, bU.alloc _, rU.alloc _, trivial⟩, by simp; omega⟩, hB.alloc hB.size _⟩ ⟨W.heap.size, ⟨by go_simp, by go_simp⟩, rfl⟩
  case body =>
    rintro l pre x a' W hl ⟨r, hr⟩ ⟨⟨⟨u, bU, rU, _⟩, i5⟩, hB⟩ ⟨Bx, ⟨p0, p1⟩, rfl⟩ hlt
    have cU := bU.cell
    have HRU := Lib.hid rU
    have HBU := Lib.hid bU
    have zx := World.block_lt_of_cell? _ _ p0
    clear rU
    gi_wp2_with (gi_at_builtin; refine wpListIn_append_own _ rfl _ _ 33 rfl w.heap.size 26 i0 (.agg #[.int .i64 0, .int .i64 0]) 2 16 Try.underlying33 hi hz0 hz1 hz2 rfl (by decide) _ _ _ rfl (HRU.out.alloc _) ⟨W.heap.size, 0, none⟩ 1 1 [.int .i64 x.1, .int .i64 x.2] rfl rfl (cells2_new _ _ _ _ rfl) (one_cell2 _ _) (by unfold maxLen; omega) (by omega) (by have := hB.size; simp; omega) ?_; intro v' w1 hown' hgrow _; obtain ⟨g', cap', rfl⟩ := ownsRow_succ hown'; obtain ⟨hv1, hv2, hr2, hk2, hb2⟩ := HBU.out.appended (by decide) HRU.out hB.size (by omega) hown' hgrow; have hc1 := hv1.cell; have hf1 := hv1.frozen; have HK2 := Lib.hid (KI.appended HBU.out HRU.out hgrow hb2); have HV2 := Lib.hid hv2; have HR2 := Lib.hid hr2; have HKO := Lib.hid hk2; clear hv1 hv2 hr2 hk2 hb2 hown' hgrow)
    exact ⟨HKO.out.from _, HK2.out, ⟨⟨_, HV2.out, by rw [List.length_append, rowP_append]; exact HR2.out⟩, by have := HK2.out.below.size; omega⟩, hB.trans HK2.out.below⟩
  case done =>
    rintro D ys W hD rfl ⟨⟨⟨u, bU, rU, _⟩, i5⟩, hB⟩ hK
    have cU := bU.cell
    gi_wp2
    refine ⟨by simp, .inl ⟨_, _, rfl, run_takeDeferred hK, ?_⟩⟩
    have hrw := ownsRow_putObj rU (.deferred none) hK rfl
    refine ⟨.tuple #[u, .int .i64 0], ?_, ⟨_, rfl, prs_of (by rw [Met.bt, Met.bts_length]; omega) hrw⟩, hB.trans (belowK_b (w := w) (Nat.le_refl _) W D _ _ (by omega) hK rfl rfl)⟩
    simp [results, Try.results14, go_sem]
  case stop =>
    rintro D c pre W hD _ hF
    exact hF.elim

theorem mem_take {α : Type} {l pre ini : List α} {last : α} {k : Nat} (h : pre = l.take k) (e : pre = ini ++ [last]) : last ∈ l := List.mem_of_mem_take (i := k) (by rw [← h, e]; simp)
set_option maxRecDepth 100000 in
set_option maxHeartbeats 4000000 in
theorem onBeat_any (q d : Int) (v : Value) (gs : List Int) (a b : Int) (w : World) (hI : Ints w v gs) (hr : Met.right q d gs = true) :
    Calls Try.prog 40 #[mt q d v, rt a b] w fun ed w' => ed = .returned (.bool (decide ((a, b) ∈ Met.bt q d gs))) ∧ Below w.heap.size w w' := by
  obtain ⟨p, cap, rfl, hl, hc⟩ := hI
  have HI : Hid (Ints w (.slice p gs.length cap) gs) := Lib.hid ⟨p, cap, rfl, hl, hc⟩
  clear hl hc
  have hgR := guardR
  have heR := eql_rt
  refine (callsIn_wide (n := 3)).1 ?_
  refine callsIn_of_wp_marks Try.func40 rfl trivial ?_ rfl
  simp only [Try.ntmps40, List.size_toArray, List.length_cons, List.length_nil, Nat.reduceAdd, Nat.reduceSub, Array.replicate_succ, Array.replicate_zero, List.push_toArray, List.append_toArray, List.nil_append, List.cons_append]
  gi_wp2_with (refine ⟨trivial, ?_⟩; gi_at_call 33; refine (callsIn_wide.2 (beatsF_any q d _ _)).mono ?_; rintro e w' ⟨rfl, rfl⟩)
  have hBw : Below w.heap.size w ((((w.alloc (.cells #[.int .i64 q, .int .i64 d, .slice p gs.length cap] 24)).alloc (.cells #[.int .i64 a, .int .i64 b] 26)).alloc (.cells #[.bool false] 4)).alloc (.cells #[.int .i64 q, .int .i64 d, .slice p gs.length cap] 24)) := by repeat (first | exact Below.refl _ _ | refine Below.alloc ?_ (by simp <;> omega) _)
  have hbx : ((((w.alloc (.cells #[.int .i64 q, .int .i64 d, .slice p gs.length cap] 24)).alloc (.cells #[.int .i64 a, .int .i64 b] 26)).alloc (.cells #[.bool false] 4)).alloc (.cells #[.int .i64 q, .int .i64 d, .slice p gs.length cap] 24)).heap[w.heap.size + 1 + 1 + 1]? = some (.cells #[.int .i64 q, .int .i64 d, .slice p gs.length cap] 24 (0, 0)) := by
    have := World.alloc_heap_new (((w.alloc (.cells #[.int .i64 q, .int .i64 d, .slice p gs.length cap] 24)).alloc (.cells #[.int .i64 a, .int .i64 b] 26)).alloc (.cells #[.bool false] 4)) (.cells #[.int .i64 q, .int .i64 d, .slice p gs.length cap] 24)
    rwa [World.size_alloc, World.size_alloc, World.size_alloc] at this
  have c_a : ((((w.alloc (.cells #[.int .i64 q, .int .i64 d, .slice p gs.length cap] 24)).alloc (.cells #[.int .i64 a, .int .i64 b] 26)).alloc (.cells #[.bool false] 4)).alloc (.cells #[.int .i64 q, .int .i64 d, .slice p gs.length cap] 24)).cell? ⟨w.heap.size + 1, 0, none⟩ = some (.int .i64 a) := by go_simp
  have c_b : ((((w.alloc (.cells #[.int .i64 q, .int .i64 d, .slice p gs.length cap] 24)).alloc (.cells #[.int .i64 a, .int .i64 b] 26)).alloc (.cells #[.bool false] 4)).alloc (.cells #[.int .i64 q, .int .i64 d, .slice p gs.length cap] 24)).cell? ⟨w.heap.size + 1, 1, none⟩ = some (.int .i64 b) := by go_simp
  have c_r : ((((w.alloc (.cells #[.int .i64 q, .int .i64 d, .slice p gs.length cap] 24)).alloc (.cells #[.int .i64 a, .int .i64 b] 26)).alloc (.cells #[.bool false] 4)).alloc (.cells #[.int .i64 q, .int .i64 d, .slice p gs.length cap] 24)).cell? ⟨w.heap.size + 1 + 1, 0, none⟩ = some (.bool false) := by go_simp
  have f_r : ((((w.alloc (.cells #[.int .i64 q, .int .i64 d, .slice p gs.length cap] 24)).alloc (.cells #[.int .i64 a, .int .i64 b] 26)).alloc (.cells #[.bool false] 4)).alloc (.cells #[.int .i64 q, .int .i64 d, .slice p gs.length cap] 24)).frozen? ⟨w.heap.size + 1 + 1, 0, none⟩ = false := by go_simp
  have HI0 : Hid (IntsK w.heap.size ((((w.alloc (.cells #[.int .i64 q, .int .i64 d, .slice p gs.length cap] 24)).alloc (.cells #[.int .i64 a, .int .i64 b] 26)).alloc (.cells #[.bool false] 4)).alloc (.cells #[.int .i64 q, .int .i64 d, .slice p gs.length cap] 24)) (.slice p gs.length cap) gs) := Lib.hid ((HI.out.fix (Nat.le_refl _)).later hBw)
  have hsz : ((((w.alloc (.cells #[.int .i64 q, .int .i64 d, .slice p gs.length cap] 24)).alloc (.cells #[.int .i64 a, .int .i64 b] 26)).alloc (.cells #[.bool false] 4)).alloc (.cells #[.int .i64 q, .int .i64 d, .slice p gs.length cap] 24)).heap.size = w.heap.size + 4 := by simp
  clear HI
  generalize ((((w.alloc (.cells #[.int .i64 q, .int .i64 d, .slice p gs.length cap] 24)).alloc (.cells #[.int .i64 a, .int .i64 b] 26)).alloc (.cells #[.bool false] 4)).alloc (.cells #[.int .i64 q, .int .i64 d, .slice p gs.length cap] 24)) = W0 at *
  refine wpIn_rangeFunc_ownH rfl (by omega) (gf := 56) (lb := #[.pointer (some ⟨w.heap.size + 1 + 1 + 1, 0, none⟩)]) rfl trivial (enters_of Try.func56 (by kernel_rfl) rfl)
    (beats_stops (3 - 1) (by omega) (w.heap.size + 1 + 1 + 1) w.heap.size q d _ gs hr W0 (by omega) hbx HI0.out)
    KI.trans (kI_b (by omega)) (Below.refl _ _) (fun _ => rfl)
    (fun pre W => ((∀ y ∈ pre, eqR y.1 y.2 a b = false) ∧ W.cell? ⟨w.heap.size + 1, 0, none⟩ = some (.int .i64 a) ∧ W.cell? ⟨w.heap.size + 1, 1, none⟩ = some (.int .i64 b) ∧ W.cell? ⟨w.heap.size + 1 + 1, 0, none⟩ = some (.bool false) ∧ W.frozen? ⟨w.heap.size + 1 + 1, 0, none⟩ = false ∧ W0.heap.size ≤ W.heap.size) ∧ Below w.heap.size w W)
    (fun c pre W => (c = .ret ∧ ∃ ini last, pre = ini ++ [last] ∧ eqR last.1 last.2 a b = true ∧ W.cell? ⟨w.heap.size + 1 + 1, 0, none⟩ = some (.bool true)) ∧ Below w.heap.size w W)
    (OwnFrom.and (Own.from (fun s A B row hs hg hr => ⟨hs.1, cell_kept hs.2.1 hg hr, cell_kept hs.2.2.1 hg hr, cell_kept hs.2.2.2.1 hg hr, (frozen_kept hs.2.2.2.1 hg hr).trans hs.2.2.2.2.1, Nat.le_trans hs.2.2.2.2.2 hg.size⟩) _) (ownFrom_below (Nat.le_refl _) (by omega)))
    (fun c => OwnFrom.and (Own.from (fun s A B row hs hg hr => by obtain ⟨hc, ini, last, e1, e3, e4⟩ := hs; exact ⟨hc, ini, last, e1, e3, cell_kept e4 hg hr⟩) _) (ownFrom_below (Nat.le_refl _) (by omega)))
    ⟨⟨by simp, c_a, c_b, c_r, f_r, Nat.le_refl _⟩, hBw⟩
    (fun x a' W => ∃ Bx, (W.cell? ⟨Bx, 0, none⟩ = some (.int .i64 x.1) ∧ W.cell? ⟨Bx, 1, none⟩ = some (.int .i64 x.2)) ∧ a' = { tmps := #[mt q d (.slice p gs.length cap), rt a b, .pointer (some ⟨w.heap.size, 0, none⟩), .pointer (some ⟨w.heap.size + 1, 0, none⟩), .pointer (some ⟨w.heap.size + 1 + 1, 0, none⟩), .pointer (some ⟨Bx, 0, none⟩), mt q d (.slice p gs.length cap), .func (.func 56) #[] #[.pointer (some ⟨w.heap.size + 1 + 1 + 1, 0, none⟩)], rp x, undef, undef, undef], defers := [] })
    (fun x a' s A B row hs hg hr => by obtain ⟨Bx, g2, g3⟩ := hs; exact ⟨Bx, ⟨cell_kept g2.1 hg (fun r e => (hr r e).2), cell_kept g2.2 hg (fun r e => (hr r e).2)⟩, g3⟩) ?assign ?body ?done ?stop
  case assign =>
    rintro l pre x W K ⟨⟨i1, i2, i2', i3, i4, i5⟩, hB⟩ hK
    gi_wp2
    exact hK _ _ ((KeepsOthers.alloc _ _).from _) (KI.of_below ((Below.refl _ W).alloc (Nat.le_refl _) _) hB.size) ⟨⟨i1, alloc_cell i2, alloc_cell i2', alloc_cell i3, alloc_frozen i3 i4, by simp; omega⟩, hB.alloc hB.size _⟩ ⟨W.heap.size, ⟨by go_simp, by go_simp⟩, rfl⟩
  case body =>
    rintro l pre x a' W hl ⟨r, hr⟩ ⟨⟨i1, i2, i2', i3, i4, i5⟩, hB⟩ ⟨Bx, ⟨p0, p1⟩, rfl⟩ hlt
    have HI1 := Lib.hid i1
    clear i1
    gi_wp2
    · rename_i hx
      exact ⟨(KeepsOthers.setCell _ _ _).from _, ⟨rfl, pre, x, rfl, hx, set_same (held_of i3)⟩, set1_below hB (by omega)⟩
    · rename_i hx
      exact ⟨KeepsFrom.refl _ _, KI.refl _ _, ⟨fun y hy => (List.mem_append.1 hy).elim (HI1.out y) (fun e => by simp at e; subst e; simpa using hx), i2, i2', i3, i4, by omega⟩, hB⟩
  case done =>
    rintro D ys W hD rfl ⟨⟨i1, i2, i2', i3, i4, i5⟩, hB⟩ hK
    gi_wp2
    have hK' := (KeepsOthers.setCell W ⟨w.heap.size + 1 + 1, 0, none⟩ (.bool false)).same D _ hK rfl
    refine ⟨by simp, .inl ⟨_, _, rfl, run_takeDeferred hK', ?_⟩⟩
    have hc5 := cell_kept (set_same (x := .bool false) (held_of i3)) (grownBy_putObj' _ D (.deferred none)) (fun r e => by cases e; exact ⟨_, hK', rfl⟩)
    have hv : decide ((a, b) ∈ Met.bt q d gs) = false := decide_eq_false fun hm => by have := i1 _ hm; rw [eqR_self] at this; cases this
    refine ⟨.bool false, ?_, by rw [hv], (set1_below hB (by omega)).trans (belowK_b (w := w) (Nat.le_refl _) _ D _ _ (by omega) hK' rfl rfl)⟩
    simp [results, Try.results40, go_sem, hc5]
  case stop =>
    rintro D c pre W hD ⟨k, hk, hpre⟩ ⟨⟨rfl, ini, last, e1, e3, e4⟩, hB⟩ hK
    gi_wp2
    refine ⟨by simp, .inl ⟨_, _, rfl, run_takeDeferred hK, ?_⟩⟩
    have hc5 := cell_kept e4 (grownBy_putObj' _ D (.deferred none)) (fun r e => by cases e; exact ⟨_, hK, rfl⟩)
    have hv : decide ((a, b) ∈ Met.bt q d gs) = true := decide_eq_true (by
      obtain ⟨x, y⟩ := last
      obtain ⟨rfl, rfl⟩ := (eqR_iff _ _ _ _).1 e3
      exact mem_take hpre e1)
    refine ⟨.bool true, ?_, by rw [hv], hB.trans (belowK_b (w := w) (Nat.le_refl _) W D _ _ (by omega) hK rfl rfl)⟩
    simp [results, Try.results40, go_sem, hc5]
end Go.Proofs.Ytlodhfdikglgoaa
