/-
  The contract of meter.pieces.
-/
import Derived.Test.YtlodhfdikglgoaaMetE
namespace Go.Proofs.Ytlodhfdikglgoaa
open Go.RowKit Go.Shelf
attribute [local go_sem] Oper.semAt_some

theorem keep_block {W W' : World} {row : Option Nat} {B : Nat} {cs : Array Value} {t : TypeId} {fl : Nat × Nat} (hg : W.grownBy W' row) (hr : ∀ r, row = some r → ∃ o : Obj, W.heap[r]? = some o ∧ o.isCells = false) (h : W.heap[B]? = some (.cells cs t fl)) : W'.heap[B]? = W.heap[B]? :=
  hg.block B (Array.getElem?_eq_some_iff.1 h).1 (fun e => by obtain ⟨o, ho, hc⟩ := hr B e.symm; rw [h] at ho; cases ho; cases hc)
theorem CutPost.far {base B1 B2 : Nat} {v : Value} {l : List Met.Pr} {to : Met.Pr} {w w' : World} (h : CutPost base B1 B2 v l to w w') {k : Nat} {xs : List Value} (hown : w.ownsRow base 26 2 v k xs) {j : Nat} (hj : j < base) (hl : j < w.heap.size) (n1 : j ≠ B1) (n2 : j ≠ B2) : w'.heap[j]? = w.heap[j]? :=
  h.keep j hl n1 n2 (fun e => by have := (hown.lt j e.symm).1; omega)
theorem CutPost.others {base B1 B2 : Nat} {v : Value} {l : List Met.Pr} {to f : Met.Pr} {w w' : World} (h : CutPost base B1 B2 v l to w w') (h1 : Box2 w B1 f) (h2 : Boxed w B2 33 v) {k : Nat} {xs : List Value} (hown : w.ownsRow base 26 2 v k xs) : KeepsOthers w w' :=
  ⟨h.size, fun j o hj ho => by
    refine (h.keep j (Array.getElem?_eq_some_iff.1 hj).1 ?_ ?_ ?_).trans hj
    · rintro rfl; rw [show w.heap[j]? = _ from h1] at hj; cases hj; cases ho
    · rintro rfl; rw [show w.heap[j]? = _ from h2] at hj; cases hj; cases ho
    · intro e
      rcases hown.2 with ⟨rfl, _⟩ | ⟨g, cap, cur, rfl, _, hgb, _⟩
      · simp [Value.ownBlock] at e
      · obtain rfl : j = g := by simpa [Value.ownBlock] using e
        rw [hgb] at hj; cases hj; cases ho⟩
theorem CutPost.ki {n₀ base B1 B2 : Nat} {v : Value} {l : List Met.Pr} {to f : Met.Pr} {w w' : World} (h : CutPost base B1 B2 v l to w w') (h1 : Box2 w B1 f) (h2 : Boxed w B2 33 v) {k : Nat} {xs : List Value} (hown : w.ownsRow base 26 2 v k xs) (n0 : n₀ ≤ base) (n1 : n₀ ≤ B1) (n2 : n₀ ≤ B2) : KI n₀ w w' :=
  ⟨⟨h.os, h.tape, h.output, h.size, fun j hj => by
      by_cases hl : j < w.heap.size
      · exact h.far hown (by omega) hl (by omega) (by omega)
      · have := h1.lt; omega⟩, fun j cur t f ht hj => by
    refine (h.keep j (Array.getElem?_eq_some_iff.1 hj).1 ?_ ?_ ?_).trans hj
    · rintro rfl; rw [show w.heap[j]? = _ from h1] at hj; simp at hj; rcases ht with rfl | rfl <;> exact absurd hj.2.1 (by decide)
    · rintro rfl; rw [show w.heap[j]? = _ from h2] at hj; simp at hj; rcases ht with rfl | rfl <;> exact absurd hj.2.1 (by decide)
    · intro e
      rcases hown.2 with ⟨rfl, _⟩ | ⟨g, cap, cur', rfl, _, hgb, _⟩
      · simp [Value.ownBlock] at e
      · obtain rfl : j = g := by simpa [Value.ownBlock] using e
        rw [hgb] at hj; simp at hj; rcases ht with rfl | rfl <;> exact absurd hj.2.1 (by decide)⟩
/-- What lies in memory between two rounds. -/
structure PcI (base B : Nat) (en f : Met.Pr) (l : List Met.Pr) (W : World) : Prop where
  frm : Box2 W (B + 1) f
  fin : Box2 W (B + 1 + 1) en
  res : Boxed W (B + 1 + 1 + 1) 33 (.slice none 0 0)
  err : Boxed W (B + 1 + 1 + 1 + 1) 30 (.int .i64 0)
  all : ∃ v, Boxed W (B + 1 + 1 + 1 + 1 + 1) 33 v ∧ W.ownsRow base 26 2 v l.length (rowP l) ∧ True
  cut : Boxed W (B + 1 + 1 + 1 + 1 + 1 + 1) 70 (.func (.func 58) #[] #[.pointer (some ⟨B + 1, 0, none⟩), .pointer (some ⟨B + 1 + 1 + 1 + 1 + 1, 0, none⟩)])
theorem PcI.kept {base B : Nat} {en f : Met.Pr} {l : List Met.Pr} {W W' : World} {row : Option Nat} (h : PcI base B en f l W) (hg : W.grownBy W' row) (hr : ∀ r, row = some r → ∃ o : Obj, W.heap[r]? = some o ∧ o.isCells = false) : PcI base B en f l W' :=
  ⟨h.frm.kept (keep_block hg hr h.frm), h.fin.kept (keep_block hg hr h.fin), Boxed.kept' h.res (keep_block hg hr h.res), Boxed.kept' h.err (keep_block hg hr h.err), holdsRow_own base (B + 1 + 1 + 1 + 1 + 1) 33 26 2 (fun _ => l.length) (fun _ => rowP l) (fun _ _ => True) () W W' row h.all hg hr, Boxed.kept' h.cut (keep_block hg hr h.cut)⟩
theorem PcI.later {base B : Nat} {en f : Met.Pr} {l : List Met.Pr} {W W' : World} (h : PcI base B en f l W) (hb : Below W.heap.size W W') : PcI base B en f l W' := h.kept (grown_of_below hb) (fun _ e => by cases e)
theorem PcI.step {base B : Nat} {en f to : Met.Pr} {l l' : List Met.Pr} {v : Value} {W W' : World} (h : PcI base B en f l W) (hown : W.ownsRow base 26 2 v l.length (rowP l)) (hp : CutPost base (B + 1) (B + 1 + 1 + 1 + 1 + 1) v l' to W W') (hb : B + 8 ≤ base) (hs : base ≤ W.heap.size) : PcI base B en to l' W' :=
  ⟨hp.box, h.fin.kept (hp.far hown (by omega) (by omega) (by omega) (by omega)), Boxed.kept' h.res (hp.far hown (by omega) (by omega) (by omega) (by omega)), Boxed.kept' h.err (hp.far hown (by omega) (by omega) (by omega) (by omega)), by obtain ⟨u, h1, h2⟩ := hp.row; exact ⟨u, h1, h2, trivial⟩, Boxed.kept' h.cut (hp.far hown (by omega) (by omega) (by omega) (by omega))⟩
theorem run_len (en : Met.Pr) (bs : List Met.Pr) : ∀ s : Met.St, (bs.foldl (Met.stp en) s).2.2.length ≤ s.2.2.length + bs.length := by
  induction bs with
  | nil => intro s; exact Nat.le_refl _
  | cons x bs ih =>
    intro s
    rw [List.foldl_cons]
    refine Nat.le_trans (ih _) ?_
    have : (Met.stp en s x).2.2.length ≤ s.2.2.length + 1 := by
      unfold Met.stp
      split
      · omega
      · split
        · omega
        · simp
    simp only [List.length_cons]
    omega
theorem compareP (p q : Met.Pr) (w : World) :
    Calls Try.prog 32 #[rp p, rp q] w fun ed w' => ed = .returned (.int .i64 (Met.cm p q)) ∧ Below w.heap.size w w' := compare_any p.1 p.2 q.1 q.2 w
/-- A list of ratios in memory, in a row that is long enough. -/
def PrsC (W : World) (v : Value) (l : List Met.Pr) : Prop := Prs W v l ∧ ∃ p n c, v = .slice p n c ∧ n ≤ c
theorem PrsC.none (W : World) : PrsC W (.slice none 0 0) [] := ⟨Prs.none W, _, _, _, rfl, Nat.le_refl _⟩
theorem prsC_of {W : World} {base : Nat} {e : TypeId} {v : Value} {l : List Met.Pr} (hl : l.length ≤ 1000000) (h : W.ownsRow base e 2 v l.length (rowP l)) : PrsC W v l := by
  refine ⟨prs_of hl h, ?_⟩
  obtain ⟨_, ⟨rfl, _⟩ | ⟨g, cap, cur, rfl, _, _, hcap, _⟩⟩ := h
  · exact ⟨_, _, _, rfl, Nat.le_refl _⟩
  · exact ⟨_, _, _, rfl, hcap⟩

set_option maxRecDepth 100000 in
set_option maxHeartbeats 4000000 in
theorem pieces_any (q d : Int) (v : Value) (gs : List Int) (a b c e : Int) (w : World) (hI : Ints w v gs) (hr : Met.right q d gs = true) :
    Calls Try.prog 43 #[mt q d v, rt a b, rt c e] w fun ed w' => (∃ u, ed = .returned (.tuple #[u, .int .i64 (Met.pcs q d gs (a, b) (c, e)).1]) ∧ PrsC w' u (Met.pcs q d gs (a, b) (c, e)).2) ∧ Below w.heap.size w w' := by
  obtain ⟨p, cap, rfl, hl, hc⟩ := hI
  have HI : Hid (Ints w (.slice p gs.length cap) gs) := Lib.hid ⟨p, cap, rfl, hl, hc⟩
  clear hl hc
  have hlen := (Met.isRight hr).len
  refine (callsIn_wide (n := 3)).1 ?_
  refine callsIn_of_wp_marks Try.func43 rfl trivial ?_ rfl
  simp only [Try.ntmps43, List.size_toArray, List.length_cons, List.length_nil, Nat.reduceAdd, Nat.reduceSub, Array.replicate_succ, Array.replicate_zero, List.push_toArray, List.append_toArray, List.nil_append, List.cons_append]
  gi_wp2_with (refine ⟨trivial, ?_⟩; gi_at_call 33; refine (callsIn_wide.2 (beatsF_any q d _ _)).mono ?_; rintro e w' ⟨rfl, rfl⟩)
  have hBw : Below w.heap.size w ((((((((w.alloc (.cells #[.int .i64 q, .int .i64 d, .slice p gs.length cap] 24)).alloc (.cells #[.int .i64 a, .int .i64 b] 26)).alloc (.cells #[.int .i64 c, .int .i64 e] 26)).alloc (.cells #[.slice none 0 0] 33)).alloc (.cells #[.int .i64 0] 30)).alloc (.cells #[.slice none 0 0] 33)).alloc (.cells #[.func (.func 58) #[] #[.pointer (some ⟨w.heap.size + 1, 0, none⟩), .pointer (some ⟨w.heap.size + 1 + 1 + 1 + 1 + 1, 0, none⟩)]] 70)).alloc (.cells #[.int .i64 q, .int .i64 d, .slice p gs.length cap] 24)) := by repeat (first | exact Below.refl _ _ | refine Below.alloc ?_ (by simp <;> omega) _)
  have hbx : ((((((((w.alloc (.cells #[.int .i64 q, .int .i64 d, .slice p gs.length cap] 24)).alloc (.cells #[.int .i64 a, .int .i64 b] 26)).alloc (.cells #[.int .i64 c, .int .i64 e] 26)).alloc (.cells #[.slice none 0 0] 33)).alloc (.cells #[.int .i64 0] 30)).alloc (.cells #[.slice none 0 0] 33)).alloc (.cells #[.func (.func 58) #[] #[.pointer (some ⟨w.heap.size + 1, 0, none⟩), .pointer (some ⟨w.heap.size + 1 + 1 + 1 + 1 + 1, 0, none⟩)]] 70)).alloc (.cells #[.int .i64 q, .int .i64 d, .slice p gs.length cap] 24)).heap[w.heap.size + 1 + 1 + 1 + 1 + 1 + 1 + 1]? = some (.cells #[.int .i64 q, .int .i64 d, .slice p gs.length cap] 24 (0, 0)) := by
    have := World.alloc_heap_new (((((((w.alloc (.cells #[.int .i64 q, .int .i64 d, .slice p gs.length cap] 24)).alloc (.cells #[.int .i64 a, .int .i64 b] 26)).alloc (.cells #[.int .i64 c, .int .i64 e] 26)).alloc (.cells #[.slice none 0 0] 33)).alloc (.cells #[.int .i64 0] 30)).alloc (.cells #[.slice none 0 0] 33)).alloc (.cells #[.func (.func 58) #[] #[.pointer (some ⟨w.heap.size + 1, 0, none⟩), .pointer (some ⟨w.heap.size + 1 + 1 + 1 + 1 + 1, 0, none⟩)]] 70)) (.cells #[.int .i64 q, .int .i64 d, .slice p gs.length cap] 24)
    simpa only [World.size_alloc] using this
  have hsz : ((((((((w.alloc (.cells #[.int .i64 q, .int .i64 d, .slice p gs.length cap] 24)).alloc (.cells #[.int .i64 a, .int .i64 b] 26)).alloc (.cells #[.int .i64 c, .int .i64 e] 26)).alloc (.cells #[.slice none 0 0] 33)).alloc (.cells #[.int .i64 0] 30)).alloc (.cells #[.slice none 0 0] 33)).alloc (.cells #[.func (.func 58) #[] #[.pointer (some ⟨w.heap.size + 1, 0, none⟩), .pointer (some ⟨w.heap.size + 1 + 1 + 1 + 1 + 1, 0, none⟩)]] 70)).alloc (.cells #[.int .i64 q, .int .i64 d, .slice p gs.length cap] 24)).heap.size = w.heap.size + 8 := by simp
  have hPc : PcI (w.heap.size + 8) w.heap.size (c, e) (a, b) [] ((((((((w.alloc (.cells #[.int .i64 q, .int .i64 d, .slice p gs.length cap] 24)).alloc (.cells #[.int .i64 a, .int .i64 b] 26)).alloc (.cells #[.int .i64 c, .int .i64 e] 26)).alloc (.cells #[.slice none 0 0] 33)).alloc (.cells #[.int .i64 0] 30)).alloc (.cells #[.slice none 0 0] 33)).alloc (.cells #[.func (.func 58) #[] #[.pointer (some ⟨w.heap.size + 1, 0, none⟩), .pointer (some ⟨w.heap.size + 1 + 1 + 1 + 1 + 1, 0, none⟩)]] 70)).alloc (.cells #[.int .i64 q, .int .i64 d, .slice p gs.length cap] 24)) := by
    refine ⟨?_, ?_, ?_, ?_, ⟨.slice none 0 0, ?_, World.ownsRow_nil _ _ _ _, trivial⟩, ?_⟩
    all_goals simp only [Box2, Boxed, World.alloc, Array.getElem?_push, Array.size_push]
    all_goals (repeat (rw [if_neg (by omega)]))
    all_goals simp
  have HI0 : Hid (IntsK w.heap.size ((((((((w.alloc (.cells #[.int .i64 q, .int .i64 d, .slice p gs.length cap] 24)).alloc (.cells #[.int .i64 a, .int .i64 b] 26)).alloc (.cells #[.int .i64 c, .int .i64 e] 26)).alloc (.cells #[.slice none 0 0] 33)).alloc (.cells #[.int .i64 0] 30)).alloc (.cells #[.slice none 0 0] 33)).alloc (.cells #[.func (.func 58) #[] #[.pointer (some ⟨w.heap.size + 1, 0, none⟩), .pointer (some ⟨w.heap.size + 1 + 1 + 1 + 1 + 1, 0, none⟩)]] 70)).alloc (.cells #[.int .i64 q, .int .i64 d, .slice p gs.length cap] 24)) (.slice p gs.length cap) gs) := Lib.hid ((HI.out.fix (Nat.le_refl _)).later hBw)
  clear HI
  generalize ((((((((w.alloc (.cells #[.int .i64 q, .int .i64 d, .slice p gs.length cap] 24)).alloc (.cells #[.int .i64 a, .int .i64 b] 26)).alloc (.cells #[.int .i64 c, .int .i64 e] 26)).alloc (.cells #[.slice none 0 0] 33)).alloc (.cells #[.int .i64 0] 30)).alloc (.cells #[.slice none 0 0] 33)).alloc (.cells #[.func (.func 58) #[] #[.pointer (some ⟨w.heap.size + 1, 0, none⟩), .pointer (some ⟨w.heap.size + 1 + 1 + 1 + 1 + 1, 0, none⟩)]] 70)).alloc (.cells #[.int .i64 q, .int .i64 d, .slice p gs.length cap] 24)) = W0 at *
  refine wpIn_rangeFunc_ownH rfl (by omega) (gf := 56) (lb := #[.pointer (some ⟨w.heap.size + 1 + 1 + 1 + 1 + 1 + 1 + 1, 0, none⟩)]) rfl trivial (enters_of Try.func56 (by kernel_rfl) rfl)
    (beats_stops (3 - 1) (by omega) (w.heap.size + 1 + 1 + 1 + 1 + 1 + 1 + 1) w.heap.size q d _ gs hr W0 (by omega) hbx HI0.out)
    KI.trans (kI_b (by omega)) (Below.refl _ _) (fun _ => rfl)
    (fun pre W => ((Met.run (c, e) (a, b) pre).1 = 0 ∧ PcI (w.heap.size + 8) w.heap.size (c, e) (Met.run (c, e) (a, b) pre).2.1 (Met.run (c, e) (a, b) pre).2.2 W ∧ W0.heap.size ≤ W.heap.size) ∧ Below w.heap.size w W)
    (fun cd pre W => (cd = .ret ∧ (Met.run (c, e) (a, b) pre).1 ≠ 0 ∧ W.cell? ⟨w.heap.size + 1 + 1 + 1, 0, none⟩ = some (.slice none 0 0) ∧ W.cell? ⟨w.heap.size + 1 + 1 + 1 + 1, 0, none⟩ = some (.int .i64 (Met.run (c, e) (a, b) pre).1)) ∧ Below w.heap.size w W)
    (OwnFrom.and (Own.from (fun s A B row hs hg hr => ⟨hs.1, hs.2.1.kept hg hr, Nat.le_trans hs.2.2 hg.size⟩) _) (ownFrom_below (Nat.le_refl _) (by omega)))
    (fun cd => OwnFrom.and (Own.from (fun s A B row hs hg hr => ⟨hs.1, hs.2.1, cell_kept hs.2.2.1 hg hr, cell_kept hs.2.2.2 hg hr⟩) _) (ownFrom_below (Nat.le_refl _) (by omega)))
    ⟨⟨rfl, hPc, Nat.le_refl _⟩, hBw⟩
    (fun x a' W => ∃ Bx, (W.cell? ⟨Bx, 0, none⟩ = some (.int .i64 x.1) ∧ W.cell? ⟨Bx, 1, none⟩ = some (.int .i64 x.2)) ∧ a' = { tmps := #[mt q d (.slice p gs.length cap), rt a b, rt c e, .pointer (some ⟨w.heap.size, 0, none⟩), .pointer (some ⟨w.heap.size + 1, 0, none⟩), .pointer (some ⟨w.heap.size + 1 + 1, 0, none⟩), .pointer (some ⟨w.heap.size + 1 + 1 + 1, 0, none⟩), .pointer (some ⟨w.heap.size + 1 + 1 + 1 + 1, 0, none⟩), .pointer (some ⟨w.heap.size + 1 + 1 + 1 + 1 + 1, 0, none⟩), .pointer (some ⟨w.heap.size + 1 + 1 + 1 + 1 + 1 + 1, 0, none⟩), .pointer (some ⟨Bx, 0, none⟩), undef, undef, .func (.func 58) #[] #[.pointer (some ⟨w.heap.size + 1, 0, none⟩), .pointer (some ⟨w.heap.size + 1 + 1 + 1 + 1 + 1, 0, none⟩)], mt q d (.slice p gs.length cap), .func (.func 56) #[] #[.pointer (some ⟨w.heap.size + 1 + 1 + 1 + 1 + 1 + 1 + 1, 0, none⟩)], rp x, undef, undef, undef, undef, undef, undef, undef, undef, undef, undef, undef, undef, undef, undef, undef, undef, undef, undef, undef, undef, undef, undef, undef], defers := [] })
    (fun x a' s A B row hs hg hr => by obtain ⟨Bx, g2, g3⟩ := hs; exact ⟨Bx, ⟨cell_kept g2.1 hg (fun r e => (hr r e).2), cell_kept g2.2 hg (fun r e => (hr r e).2)⟩, g3⟩) ?assign ?body ?done ?stop
  case assign =>
    rintro l pre x W K ⟨⟨i1, i2, i5⟩, hB⟩ hK
    gi_wp2
    exact hK _ _ ((KeepsOthers.alloc _ _).from _) (KI.of_below ((Below.refl _ W).alloc (Nat.le_refl _) _) hB.size) ⟨⟨i1, i2.later ((Below.refl _ _).alloc (Nat.le_refl _) _), by simp; omega⟩, hB.alloc hB.size _⟩ ⟨W.heap.size, ⟨by go_simp, by go_simp⟩, rfl⟩
  case body =>
    clear hPc hBw hbx HI0
    rintro l pre x a' W hl ⟨r, hr⟩ ⟨⟨i1, i2, i5⟩, hB⟩ ⟨Bx, ⟨p0, p1⟩, rfl⟩ hlt
    have HS := Lib.hid (Met.run_snoc (c, e) (a, b) pre x)
    have HLN := Lib.hid (run_len (c, e) pre (0, (a, b), []))
    have hlp : (Met.run (c, e) (a, b) pre).2.2.length ≤ pre.length := Nat.le_trans HLN.out (by simp)
    have HR1 := Lib.hid i1
    have HPC := Lib.hid i2
    have cf0 := i2.frm.c0
    have cf1 := i2.frm.c1
    have ce0 := i2.fin.c0
    have ce1 := i2.fin.c1
    have HSW : Hid ((Met.run (c, e) (a, b) pre) = ((Met.run (c, e) (a, b) pre).1, (Met.run (c, e) (a, b) pre).2.1, (Met.run (c, e) (a, b) pre).2.2)) := Lib.hid rfl
    dsimp only at ce0 ce1
    rw [i1] at HSW
    clear i1 i2 HLN
    obtain ⟨FF, HFF⟩ : ∃ FF, Hid ((Met.run (c, e) (a, b) pre).2.1 = FF) := ⟨_, Lib.hid rfl⟩
    obtain ⟨LL, HLL⟩ : ∃ LL, Hid ((Met.run (c, e) (a, b) pre).2.2 = LL) := ⟨_, Lib.hid rfl⟩
    rw [HFF.out, HLL.out] at HSW HPC
    rw [HFF.out] at cf0 cf1
    rw [HLL.out] at hlp
    have HST : Hid (Met.run (c, e) (a, b) (pre ++ [x]) = Met.stp (c, e) (0, FF, LL) x) := Lib.hid (by rw [HS.out, HSW.out])
    clear HS HSW HFF HLL HR1
    obtain ⟨f0, f1⟩ := FF
    obtain ⟨x0, x1⟩ := x
    dsimp only at cf0 cf1 p0 p1
    have zx := World.block_lt_of_cell? _ _ p0
    have zf := World.block_lt_of_cell? _ _ cf0
    have ze := World.block_lt_of_cell? _ _ ce0
    obtain ⟨m1, HM1⟩ : ∃ m1, Hid (Met.cm (x0, x1) (f0, f1) = m1) := ⟨_, Lib.hid rfl⟩
    obtain ⟨m2, HM2⟩ : ∃ m2, Hid (Met.cm (x0, x1) (c, e) = m2) := ⟨_, Lib.hid rfl⟩
    gi_wp2_with fail
    refine ⟨trivial, ?_⟩
    refine (CallsIn.inRound l (callsIn_wide.2 (compareP (x0, x1) (f0, f1) _))).mono ?_
    rintro ed W2 ⟨rfl, hb2⟩
    rw [HM1.out]
    by_cases h1 : m1 ≤ 0
    · have HST2 : Hid (Met.run (c, e) (a, b) (pre ++ [(x0, x1)]) = (0, (f0, f1), LL)) := Lib.hid (by rw [HST.out]; unfold Met.stp; rw [if_neg (by simp), if_pos (.inl (by show Met.cm (x0, x1) (f0, f1) ≤ 0; rw [HM1.out]; exact h1))])
      gi_wp2
      refine ⟨trivial, ?_⟩
      gi_wp2
      refine ⟨(others_below hb2).from _, KI.of_below hb2 hB.size, ⟨?_, ?_, by have := hb2.size; omega⟩, below_two hB hb2⟩
      · rw [HST2.out]
      · rw [HST2.out]; exact HPC.out.later hb2
    · have h1' : 0 < m1 := by omega
      replace p0 := cell_later hb2 p0
      replace p1 := cell_later hb2 p1
      have ce0 := cell_later hb2 ce0
      have ce1 := cell_later hb2 ce1
      have hs2 := hb2.size
      gi_wp2_with fail
      refine ⟨trivial, ?_⟩
      refine (CallsIn.inRound l (callsIn_wide.2 (compareP (x0, x1) (c, e) _))).mono ?_
      rintro ed W3 ⟨rfl, hb3⟩
      rw [HM2.out]
      have hb3' := below_two hb2 hb3
      by_cases h2 : 0 ≤ m2
      · have HST2 : Hid (Met.run (c, e) (a, b) (pre ++ [(x0, x1)]) = (0, (f0, f1), LL)) := Lib.hid (by rw [HST.out]; unfold Met.stp; rw [if_neg (by simp), if_pos (.inr (by rw [HM2.out]; exact h2))])
        gi_wp2
        refine ⟨(others_below hb3').from _, KI.of_below hb3' hB.size, ⟨?_, ?_, by have := hb3'.size; omega⟩, below_two hB hb3'⟩
        · rw [HST2.out]
        · rw [HST2.out]; exact HPC.out.later hb3'
      · have HST2 : Hid (Met.run (c, e) (a, b) (pre ++ [(x0, x1)]) = (Met.sbE (x0, x1) (f0, f1), (x0, x1), LL ++ [Met.sb (x0, x1) (f0, f1)])) := Lib.hid (by rw [HST.out]; unfold Met.stp; rw [if_neg (by simp), if_neg (by rw [HM2.out]; show ¬ (Met.cm (x0, x1) (f0, f1) ≤ 0 ∨ 0 ≤ m2); rw [HM1.out]; omega)])
        have hPC3 := HPC.out.later hb3'
        have ccut := hPC3.cut.cell
        replace p0 := cell_later hb3 p0
        replace p1 := cell_later hb3 p1
        have HPC3 := Lib.hid hPC3
        have h2' : m2 < 0 := by omega
        have hs3 := hb3'.size
        clear hPC3 HPC
        gi_wp2_with fail
        refine ⟨trivial, ?_⟩
        obtain ⟨vv, bU, rU, _⟩ := HPC3.out.all
        refine (CallsIn.inRound l (callsIn_wide.2 (cut_any (w.heap.size + 8) _ _ vv LL f0 f1 x0 x1 W3 HPC3.out.frm bU rU (by omega) (by omega) (by omega) (by omega) (by omega)))).mono ?_
        rintro ed W4 ⟨rfl, hp⟩
        have hki := (KI.of_below hb3' hB.size).trans (hp.ki (n₀ := w.heap.size) HPC3.out.frm bU rU (by omega) (by omega) (by omega))
        have hot := (others_below hb3').trans (hp.others HPC3.out.frm bU rU)
        have hPC4 := HPC3.out.step rU hp (by omega) (by omega)
        have HKI := Lib.hid hki
        have HOT := Lib.hid hot
        have HPC4 := Lib.hid hPC4
        have cr := hPC4.res.cell
        have fr := hPC4.res.frozen
        have ce := hPC4.err.cell
        have fe := hPC4.err.frozen
        have zr := hPC4.res.lt
        have zq := hPC4.err.lt
        have hs4 := hki.below.size
        clear hki hot hPC4 hp rU bU HPC3 ccut p0 p1
        obtain ⟨EE, HEE⟩ : ∃ EE, Hid (Met.sbE (x0, x1) (f0, f1) = EE) := ⟨_, Lib.hid rfl⟩
        rw [HEE.out] at HST2 ⊢
        by_cases h0 : EE = 0
        · have hz : (EE != 0) = false := by simp [h0]
          have H0 := Lib.hid h0
          clear h0 cr fr ce fe
          gi_wp2
          refine ⟨HOT.out.from _, HKI.out, ⟨?_, ?_, by omega⟩, hB.trans HKI.out.below⟩
          · rw [HST2.out]; exact H0.out
          · rw [HST2.out]; exact HPC4.out
        · have hz : (EE != 0) = true := by simp [h0]
          have H0 := Lib.hid h0
          clear h0
          gi_wp2
          refine ⟨(HOT.out.trans ((KeepsOthers.setCell _ _ _).trans (KeepsOthers.setCell _ _ _))).from _, ⟨rfl, ?_, ?_, ?_⟩, set1_below (set1_below (hB.trans HKI.out.below) (by omega)) (by omega)⟩
          · rw [HST2.out]; exact H0.out
          · exact set_far (by omega) (set_same (held_of cr))
          · rw [HST2.out]; exact set_same (set_held (held_of ce))
  case done =>
    clear hPc hBw hbx HI0
    rintro D ys W hD rfl ⟨⟨i1, i2, i5⟩, hB⟩ hK
    have HLN := Lib.hid (run_len (c, e) (Met.bt q d gs) (0, (a, b), []))
    have hlp : (Met.run (c, e) (a, b) (Met.bt q d gs)).2.2.length ≤ 32 := Nat.le_trans HLN.out (by simp only [List.length_nil, Nat.zero_add]; rw [Met.bt, Met.bts_length]; omega)
    have HPP : Hid (Met.pcs q d gs (a, b) (c, e) = Met.fin (c, e) (Met.run (c, e) (a, b) (Met.bt q d gs))) := Lib.hid rfl
    generalize Met.run (c, e) (a, b) (Met.bt q d gs) = RR at *
    obtain ⟨r0, ⟨f0, f1⟩, LL⟩ := RR
    dsimp only at i1 i2 hlp
    subst i1
    have HPC := Lib.hid i2
    have ccut := i2.cut.cell
    have ce0 := i2.fin.c0
    have ce1 := i2.fin.c1
    dsimp only at ce0 ce1
    clear i2 HLN
    gi_wp2_with fail
    refine ⟨trivial, ?_⟩
    obtain ⟨vv, bU, rU, _⟩ := HPC.out.all
    refine (callsIn_wide.2 (cut_any (w.heap.size + 8) _ _ vv LL f0 f1 c e W HPC.out.frm bU rU (by omega) (by omega) (by omega) (by omega) (by omega))).mono ?_
    rintro ed W4 ⟨rfl, hp⟩
    have hki := hp.ki (n₀ := w.heap.size) HPC.out.frm bU rU (by omega) (by omega) (by omega)
    have hot := hp.others HPC.out.frm bU rU
    have hPC4 := HPC.out.step rU hp (by omega) (by omega)
    have hB4 := hB.trans hki.below
    have hK4 := hot.same D _ hK rfl
    have HPC4 := Lib.hid hPC4
    have cr := hPC4.res.cell
    have fr := hPC4.res.frozen
    have ce := hPC4.err.cell
    have fe := hPC4.err.frozen
    have zr := hPC4.res.lt
    have zq := hPC4.err.lt
    obtain ⟨EE, HEE⟩ : ∃ EE, Hid (Met.sbE (c, e) (f0, f1) = EE) := ⟨_, Lib.hid rfl⟩
    rw [HEE.out]
    have hK5 := ((KeepsOthers.setCell W4 ⟨w.heap.size + 1 + 1 + 1, 0, none⟩ (.slice none 0 0)).trans (KeepsOthers.setCell _ ⟨w.heap.size + 1 + 1 + 1 + 1, 0, none⟩ (.int .i64 EE))).same D _ hK4 rfl
    have HK5 := Lib.hid hK5
    have hs4 := hB4.size
    clear hki hot hp rU bU HPC ccut ce0 ce1 hPC4 hK5 hK hB
    by_cases h0 : EE = 0
    · have hz : (EE != 0) = false := by simp [h0]
      have HFI : Hid (Met.pcs q d gs (a, b) (c, e) = (0, LL ++ [Met.sb (c, e) (f0, f1)])) := Lib.hid (by rw [HPP.out]; unfold Met.fin; rw [if_neg (by simp), if_neg (by rw [HEE.out, h0]; simp)])
      obtain ⟨uu, bV, rV, _⟩ := HPC4.out.all
      have cU := bV.cell
      have HRV := Lib.hid rV
      obtain ⟨g', cap', rfl⟩ := ownsRow_succ (k := LL.length) (by simpa using rV)
      have hK5 := ((KeepsOthers.setCell W4 ⟨w.heap.size + 1 + 1 + 1, 0, none⟩ (.slice (some ⟨g', 0, none⟩) (LL.length + 1) cap')).trans (KeepsOthers.setCell _ ⟨w.heap.size + 1 + 1 + 1 + 1, 0, none⟩ (.int .i64 0))).same D _ hK4 rfl
      clear HK5 HEE bV rV
      have HK5 := Lib.hid hK5
      clear hK5 h0 hK4
      gi_wp2
      refine ⟨by simp, .inl ⟨_, _, rfl, run_takeDeferred HK5.out, ?_⟩⟩
      have hr0 : ∀ r, some D = some r → ∃ o : Obj, ((W4.setCell ⟨w.heap.size + 1 + 1 + 1, 0, none⟩ (.slice (some ⟨g', 0, none⟩) (LL.length + 1) cap')).setCell ⟨w.heap.size + 1 + 1 + 1 + 1, 0, none⟩ (.int .i64 0)).heap[r]? = some o ∧ o.isCells = false := fun r e => by cases e; exact ⟨_, HK5.out, rfl⟩
      have m1 := cell_kept (set_far (B := w.heap.size + 1 + 1 + 1 + 1) (o := 0) (x := .int .i64 0) (by omega) (set_same (x := .slice (some ⟨g', 0, none⟩) (LL.length + 1) cap') (held_of cr))) (grownBy_putObj' _ D (.deferred none)) hr0
      have m2 := cell_kept (set_same (x := .int .i64 0) (set_held (p := ⟨w.heap.size + 1 + 1 + 1, 0, none⟩) (x := .slice (some ⟨g', 0, none⟩) (LL.length + 1) cap') (held_of ce))) (grownBy_putObj' _ D (.deferred none)) hr0
      have hrow := ownsRow_putObj (own_set (B := w.heap.size + 1 + 1 + 1 + 1) (o := 0) (x := .int .i64 0) (own_set (B := w.heap.size + 1 + 1 + 1) (o := 0) (x := .slice (some ⟨g', 0, none⟩) (LL.length + 1) cap') HRV.out (by omega)) (by omega)) (.deferred none) HK5.out rfl
      refine ⟨.tuple #[.slice (some ⟨g', 0, none⟩) (LL.length + 1) cap', .int .i64 0], ?_, ⟨_, by rw [HFI.out], by rw [HFI.out]; exact prsC_of (by simp; omega) hrow⟩, (set1_below (set1_below hB4 (by omega)) (by omega)).trans (belowK_b (w := w) (Nat.le_refl _) _ D _ _ (by omega) HK5.out rfl rfl)⟩
      simp [results, Try.results43, go_sem, m1, m2]
    · have hz : (EE != 0) = true := by simp [h0]
      have HFI : Hid (Met.pcs q d gs (a, b) (c, e) = (EE, [])) := Lib.hid (by rw [HPP.out]; unfold Met.fin; rw [if_neg (by simp), if_pos (by rw [HEE.out]; exact h0), HEE.out])
      clear h0 hK4
      gi_wp2
      refine ⟨by simp, .inl ⟨_, _, rfl, run_takeDeferred HK5.out, ?_⟩⟩
      have hr0 : ∀ r, some D = some r → ∃ o : Obj, ((W4.setCell ⟨w.heap.size + 1 + 1 + 1, 0, none⟩ (.slice none 0 0)).setCell ⟨w.heap.size + 1 + 1 + 1 + 1, 0, none⟩ (.int .i64 EE)).heap[r]? = some o ∧ o.isCells = false := fun r e => by cases e; exact ⟨_, HK5.out, rfl⟩
      have m1 := cell_kept (set_far (B := w.heap.size + 1 + 1 + 1 + 1) (o := 0) (x := .int .i64 EE) (by omega) (set_same (x := .slice none 0 0) (held_of cr))) (grownBy_putObj' _ D (.deferred none)) hr0
      have m2 := cell_kept (set_same (x := .int .i64 EE) (set_held (p := ⟨w.heap.size + 1 + 1 + 1, 0, none⟩) (x := .slice none 0 0) (held_of ce))) (grownBy_putObj' _ D (.deferred none)) hr0
      refine ⟨.tuple #[.slice none 0 0, .int .i64 EE], ?_, ⟨_, by rw [HFI.out], by rw [HFI.out]; exact PrsC.none _⟩, (set1_below (set1_below hB4 (by omega)) (by omega)).trans (belowK_b (w := w) (Nat.le_refl _) _ D _ _ (by omega) HK5.out rfl rfl)⟩
      simp [results, Try.results43, go_sem, m1, m2]
  case stop =>
    rintro D cd pre W hD ⟨k, hk, hpre⟩ ⟨⟨rfl, e1, e2, e3⟩, hB⟩ hK
    have HFI : Hid (Met.pcs q d gs (a, b) (c, e) = ((Met.run (c, e) (a, b) pre).1, [])) := Lib.hid (by
      unfold Met.pcs
      rw [Met.run_err (pre := pre) (by rw [hpre]; exact List.take_prefix _ _) e1]
      unfold Met.fin
      rw [if_pos e1])
    gi_wp2
    refine ⟨by simp, .inl ⟨_, _, rfl, run_takeDeferred hK, ?_⟩⟩
    have hr0 : ∀ r, some D = some r → ∃ o : Obj, W.heap[r]? = some o ∧ o.isCells = false := fun r e => by cases e; exact ⟨_, hK, rfl⟩
    have m1 := cell_kept e2 (grownBy_putObj' _ D (.deferred none)) hr0
    have m2 := cell_kept e3 (grownBy_putObj' _ D (.deferred none)) hr0
    refine ⟨.tuple #[.slice none 0 0, .int .i64 (Met.run (c, e) (a, b) pre).1], ?_, ⟨_, by rw [HFI.out], by rw [HFI.out]; exact PrsC.none _⟩, hB.trans (belowK_b (w := w) (Nat.le_refl _) W D _ _ (by omega) hK rfl rfl)⟩
    simp [results, Try.results43, go_sem, m1, m2]
end Go.Proofs.Ytlodhfdikglgoaa
