/-
  The contract of the closure that cuts a piece.
-/
import Derived.Test.YtlodhfdikglgoaaMetD
import Derived.Deep.RegionLaw
import Derived.Deep.AppendLies
namespace Go.Proofs.Ytlodhfdikglgoaa
open Go.RowKit

/-- A variable's box of two cells. -/
def Box2 (W : World) (B : Nat) (p : Met.Pr) : Prop := W.heap[B]? = some (.cells #[.int .i64 p.1, .int .i64 p.2] 26 (0, 0))
theorem Box2.c0 {W : World} {B : Nat} {p : Met.Pr} (h : Box2 W B p) : W.cell? ⟨B, 0, none⟩ = some (.int .i64 p.1) := cell_of_cells h rfl
theorem Box2.c1 {W : World} {B : Nat} {p : Met.Pr} (h : Box2 W B p) : W.cell? ⟨B, 1, none⟩ = some (.int .i64 p.2) := cell_of_cells h rfl
theorem Box2.fr {W : World} {B o : Nat} {p : Met.Pr} (h : Box2 W B p) : W.frozen? ⟨B, o, none⟩ = false := by simp [World.frozen?, show W.heap[B]? = _ from h]
theorem Box2.lt {W : World} {B : Nat} {p : Met.Pr} (h : Box2 W B p) : B < W.heap.size := (Array.getElem?_eq_some_iff.1 h).1
theorem Box2.put {W : World} {B : Nat} {p : Met.Pr} (x y : Int) (h : Box2 W B p) : Box2 (put2 W B (.int .i64 x) (.int .i64 y)) B (x, y) := by
  obtain ⟨hlt, hk⟩ := Array.getElem?_eq_some_iff.1 h
  unfold Box2 put2 World.setCell
  rw [Array.getElem?_eq_getElem (by simp only [Array.size_modify]; exact hlt), Array.getElem_modify_self, Array.getElem_modify_self, hk]
  rfl
theorem Box2.kept {W W' : World} {B : Nat} {p : Met.Pr} (h : Box2 W B p) (e : W'.heap[B]? = W.heap[B]?) : Box2 W' B p := e.trans h
theorem Boxed.kept' {W W' : World} {B : Nat} {t : TypeId} {v : Value} (h : Boxed W B t v) (e : W'.heap[B]? = W.heap[B]?) : Boxed W' B t v := e.trans h
theorem subP (p q : Met.Pr) (w : World) :
    Calls Try.prog 26 #[rp p, rp q] w fun ed w' => ed = .returned (rvp (Met.sb p q) (Met.sbE p q)) ∧ Below w.heap.size w w' := sub_any p.1 p.2 q.1 q.2 w
/-- What a cut does. -/
structure CutPost (base B1 B2 : Nat) (v : Value) (l : List Met.Pr) (to : Met.Pr) (w w' : World) : Prop where
  os : w'.os = w.os
  tape : w'.tape = w.tape
  output : w'.output = w.output
  size : w.heap.size ≤ w'.heap.size
  box : Box2 w' B1 to
  row : ∃ v', Boxed w' B2 33 v' ∧ w'.ownsRow base 26 2 v' l.length (rowP l)
  keep : ∀ j, j < w.heap.size → j ≠ B1 → j ≠ B2 → some j ≠ v.ownBlock → w'.heap[j]? = w.heap[j]?

theorem grown_far {w3 w5 : World} {o : Obj} {v : Value} {B : Nat} (hg : (w3.alloc o).drew.grownBy w5 v.ownBlock) (h : B < w3.heap.size) (hne : some B ≠ v.ownBlock) : w5.heap[B]? = w3.heap[B]? :=
  (hg.block B (by show B < (w3.alloc o).heap.size; simp; omega) hne).trans (Below.heap_alloc _ _ _ h)
theorem cut_post {base B1 B2 g' cap' k : Nat} {t0 t1 : Int} {v : Value} {l : List Met.Pr} {f : Met.Pr} {xs : List Value} {w w3 w5 : World} {o : Obj} (hB : Below w.heap.size w w3)
    (hown : w5.ownsRow base 26 2 (.slice (some ⟨g', 0, none⟩) k cap') k xs) (hg : (w3.alloc o).drew.grownBy w5 v.ownBlock)
    (k1 : Box2 (w5.setCell ⟨B2, 0, none⟩ (.slice (some ⟨g', 0, none⟩) k cap')) B1 f) (k2 : Boxed w5 B2 33 v) (hb1 : B1 < base) (hb2 : B2 < base) (hne : B1 ≠ B2) (hx : xs = rowP l) (hk : k = l.length) :
    CutPost base B1 B2 v l (t0, t1) w (put2 (w5.setCell ⟨B2, 0, none⟩ (.slice (some ⟨g', 0, none⟩) k cap')) B1 (.int .i64 t0) (.int .i64 t1)) := by
  subst hx hk
  refine ⟨hg.os.trans hB.os, hg.tape.trans hB.tape, hg.output.trans hB.output, ?_, k1.put _ _, ⟨.slice (some ⟨g', 0, none⟩) l.length cap', ?_, ?_⟩, ?_⟩
  · have h1 := hB.size
    have h2 := hg.size
    change (w3.alloc o).heap.size ≤ _ at h2
    simp at h2
    simp [put2]
    omega
  · refine Boxed.kept' (k2.set _) ?_
    rw [put2, Below.heap_setCell _ _ _ _ hne.symm, Below.heap_setCell _ _ _ _ hne.symm]
  · exact own_set (own_set (own_set hown hb2) hb1) hb1
  · intro j hj h1 h2 h3
    rw [put2, Below.heap_setCell _ _ _ _ h1, Below.heap_setCell _ _ _ _ h1, Below.heap_setCell _ _ _ _ h2, grown_far hg (Nat.lt_of_lt_of_le hj hB.size) h3]
    exact hB.block j hj

set_option maxRecDepth 100000 in
set_option maxHeartbeats 4000000 in
theorem cut_any (base B1 B2 : Nat) (v : Value) (l : List Met.Pr) (f0 f1 t0 t1 : Int) (w : World) (h1 : Box2 w B1 (f0, f1)) (h2 : Boxed w B2 33 v) (hown : w.ownsRow base 26 2 v l.length (rowP l)) (hb1 : B1 < base) (hb2' : B2 < base) (hne : B1 ≠ B2) (hbase : base ≤ w.heap.size) (hl : l.length ≤ 1000) :
    Calls Try.prog 58 #[rt t0 t1, .pointer (some ⟨B1, 0, none⟩), .pointer (some ⟨B2, 0, none⟩)] w fun ed w' => ed = .returned (.int .i64 (Met.sbE (t0, t1) (f0, f1))) ∧ CutPost base B1 B2 v (l ++ [Met.sb (t0, t1) (f0, f1)]) (t0, t1) w w' := by
  obtain ⟨i0, hi, hz0, hz1, hz2⟩ := info_parts infoR
  have cF0 := h1.c0
  have cF1 := h1.c1
  have zF := h1.lt
  have cA := h2.cell
  have zA := h2.lt
  have H1 := Lib.hid h1
  have H2 := Lib.hid h2
  have HOW := Lib.hid hown
  clear h1 h2 hown
  dsimp only at cF0 cF1
  have hB0 : Below w.heap.size w w := Below.refl _ _
  go_enter Try.func58, Try.ntmps58
  go_wp2_with fail
  have hs1 : Below w.heap.size w (w.alloc (.cells #[.int .i64 t0, .int .i64 t1] 26)) := by repeat (first | exact Below.refl _ _ | refine Below.alloc ?_ (by simp <;> omega) _)
  have c_t_0 : (w.alloc (.cells #[.int .i64 t0, .int .i64 t1] 26)).cell? ⟨w.heap.size, 0, none⟩ = some (.int .i64 t0) := by go_simp
  have c_t_1 : (w.alloc (.cells #[.int .i64 t0, .int .i64 t1] 26)).cell? ⟨w.heap.size, 1, none⟩ = some (.int .i64 t1) := by go_simp
  have hB1 := below_two hB0 hs1
  clear hB0 hs1
  generalize (w.alloc (.cells #[.int .i64 t0, .int .i64 t1] 26)) = w1 at *
  have z_t := World.block_lt_of_cell? _ _ c_t_0
  replace cF0 := cell_later hB1 cF0
  replace cF1 := cell_later hB1 cF1
  clear cA
  go_wp2_with fail
  refine (subP (t0, t1) (f0, f1) _).mono ?_
  rintro e w2 ⟨rfl, hb2⟩
  have hs2 := hb2
  replace c_t_0 := cell_later hs2 c_t_0
  replace c_t_1 := cell_later hs2 c_t_1
  clear z_t
  have z_t := World.block_lt_of_cell? _ _ c_t_0
  have hB2 := below_two hB1 hs2
  clear hB1 hs2
  obtain ⟨X, HX⟩ : ∃ X, Hid (Met.sb (t0, t1) (f0, f1) = X) := ⟨_, Lib.hid rfl⟩
  obtain ⟨E, HE⟩ : ∃ E, Hid (Met.sbE (t0, t1) (f0, f1) = E) := ⟨_, Lib.hid rfl⟩
  rw [HX.out, HE.out]
  obtain ⟨x, y⟩ := X
  dsimp only
  clear cF0 cF1
  go_wp2_with fail
  have hs3 : Below w2.heap.size w2 (w2.alloc (.cells #[.int .i64 x, .int .i64 y] 26)) := by repeat (first | exact Below.refl _ _ | refine Below.alloc ?_ (by simp <;> omega) _)
  replace c_t_0 := cell_later hs3 c_t_0
  replace c_t_1 := cell_later hs3 c_t_1
  have c_pc_0 : (w2.alloc (.cells #[.int .i64 x, .int .i64 y] 26)).cell? ⟨w2.heap.size, 0, none⟩ = some (.int .i64 x) := by go_simp
  have c_pc_1 : (w2.alloc (.cells #[.int .i64 x, .int .i64 y] 26)).cell? ⟨w2.heap.size, 1, none⟩ = some (.int .i64 y) := by go_simp
  have hB3 := below_two hB2 hs3
  clear hB2 hs3
  have y3_t := z_t
  generalize (w2.alloc (.cells #[.int .i64 x, .int .i64 y] 26)) = w3 at *
  have z_pc := World.block_lt_of_cell? _ _ c_pc_0
  clear z_t
  have z_t := World.block_lt_of_cell? _ _ c_t_0
  have h1 := H1.out.kept (hB3.block B1 zF)
  have h2 := Boxed.kept' H2.out (hB3.block B2 zA)
  have hown := own_later HOW.out hB3
  have hrl : ∀ g, v.ownBlock = some g → base ≤ g ∧ g < w.heap.size := HOW.out.lt
  have cF0 := h1.c0
  have cF1 := h1.c1
  have fF0 := h1.fr (o := 0)
  have fF1 := h1.fr (o := 1)
  have cA := h2.cell
  have fA := h2.frozen
  dsimp only at cF0 cF1
  have zF3 := h1.lt
  have zA3 := h2.lt
  have hs3 := hB3.size
  have H13 := Lib.hid h1
  have H23 := Lib.hid h2
  have HOW3 := Lib.hid hown
  have HRL := Lib.hid hrl
  clear h1 h2 hown hrl H1 H2 HOW
  go_region_law (refine step_append_lies _ rfl _ _ 33 rfl base 26 i0 (.agg #[.int .i64 0, .int .i64 0]) 2 16 Try.underlying33 hi hz0 hz1 hz2 rfl (by decide) v l.length (rowP l) rfl (by first | exact HOW3.out.alloc _ | exact (HOW3.out.alloc _).drew) ⟨w3.heap.size, 0, none⟩ 1 1 [.int .i64 x, .int .i64 y] rfl rfl (by first | exact cells2_new _ _ _ _ rfl) (one_cell2 _ _) (by decide) (by unfold maxLen; omega) (by omega) (by simp; omega) _ rfl ?_; intro g' cap' w5 hown5 hgrow5 hat5 hlt5; have e1 := grown_far (B := w.heap.size) hgrow5 z_t (fun e => by have := (HRL.out _ e.symm).2; omega); have k1 := H13.out.kept (grown_far (B := B1) hgrow5 zF3 (fun e => by have := (HRL.out _ e.symm).1; omega)); have k2 := Boxed.kept' H23.out (grown_far (B := B2) hgrow5 zA3 (fun e => by have := (HRL.out _ e.symm).1; omega)); have cT0 := (World.cell?_of_block (a := ⟨w.heap.size, 0, none⟩) e1).trans c_t_0; have cT1 := (World.cell?_of_block (a := ⟨w.heap.size, 1, none⟩) e1).trans c_t_1; have cA5 := k2.cell; have fA5 := k2.frozen; have cT0' := set_far (B := B2) (o := 0) (x := .slice (some ⟨g', 0, none⟩) (l.length + 1) cap') (by omega) cT0; have cT1' := set_far (B := B2) (o := 0) (x := .slice (some ⟨g', 0, none⟩) (l.length + 1) cap') (by omega) cT1; have k1' := k1.kept (Below.heap_setCell w5 ⟨B2, 0, none⟩ (.slice (some ⟨g', 0, none⟩) (l.length + 1) cap') B1 hne); have cF05 := k1'.c0; have cF15 := k1'.c1; have fF05 := k1'.fr (o := 0); have fF15 := k1'.fr (o := 1); dsimp only at cF05 cF15; have HP := Lib.hid (cut_post (o := .cells #[.int .i64 x, .int .i64 y] 26) (t0 := t0) (t1 := t1) (l := l ++ [(x, y)]) hB3 hown5 hgrow5 k1' k2 hb1 hb2' hne (by rw [rowP_append]; rfl) (by simp)); clear e1 k1 k2 k1' hown5 hgrow5 hat5 hlt5)
  all_goals go_wp2
  all_goals go_ret
  all_goals exact ⟨ret_int HE.out.symm, by rw [HX.out]; simpa using HP.out⟩
end Go.Proofs.Ytlodhfdikglgoaa
