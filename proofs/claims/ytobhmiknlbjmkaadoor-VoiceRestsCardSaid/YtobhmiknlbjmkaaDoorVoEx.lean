/-
  The answers that the laws' examples ask for, in plain words.
-/
import Derived.Test.YtobhmiknlbjmkaaDoorVoY
import Derived.Test.YtobhmiknlbjmkaaDoorVoF
import Derived.Test.YtobhmiknlbjmkaaDoorVoC
namespace Go.Proofs.YtobhmiknlbjmkaaDoor
open Go.RowKit
open Evt (P3 Ev)

theorem ex_end (v1 v2 v3 v4 v5 v6 : Value) : Voi.endOf (0, 1) (Voi.spn [(((⟨1, [(0, 0, 4), (2, 0, 4)], [true, false], 2, 0, 0, 0, [3], ⟨#[]⟩⟩ : Ev), v1, v2, v3) : EM), ((⟨1, [(0, 0, 4), (4, 0, 4)], [false, false], 2, 0, 0, 0, [], ⟨#[]⟩⟩ : Ev), v4, v5, v6)]) = ((1, 2), 0) := by kernel_rfl
theorem ex_err (v1 v2 v3 v4 v5 v6 : Value) : Voi.errOf (Voi.spn [(((⟨1, [(0, 0, 4), (2, 0, 4)], [true, false], 2, 0, 0, 0, [3], ⟨#[]⟩⟩ : Ev), v1, v2, v3) : EM), ((⟨1, [(0, 0, 4), (4, 0, 4)], [false, false], 2, 0, 0, 0, [], ⟨#[]⟩⟩ : Ev), v4, v5, v6)]) = 0 := by kernel_rfl
theorem ex_starts (v1 v2 v3 v4 v5 v6 : Value) : (Voi.spn [(((⟨1, [(0, 0, 4), (2, 0, 4)], [true, false], 2, 0, 0, 0, [3], ⟨#[]⟩⟩ : Ev), v1, v2, v3) : EM), ((⟨1, [(0, 0, 4), (4, 0, 4)], [false, false], 2, 0, 0, 0, [], ⟨#[]⟩⟩ : Ev), v4, v5, v6)]).map Voi.Sp.fr = [(0, 1), (1, 4)] := by kernel_rfl
theorem ex_meas (v1 v2 v3 v4 v5 v6 : Value) : Voi.measE (Voi.runsOf (Voi.spn [(((⟨1, [(0, 0, 4), (2, 0, 4)], [true, false], 2, 0, 0, 0, [3], ⟨#[]⟩⟩ : Ev), v1, v2, v3) : EM), ((⟨1, [(0, 0, 4), (4, 0, 4)], [false, false], 2, 0, 0, 0, [], ⟨#[]⟩⟩ : Ev), v4, v5, v6)])).1 = 0 := by kernel_rfl
theorem ex_snd (v1 v2 v3 v4 v5 v6 : Value) : (Voi.runsOf (Voi.spn [(((⟨1, [(0, 0, 4), (2, 0, 4)], [true, false], 2, 0, 0, 0, [3], ⟨#[]⟩⟩ : Ev), v1, v2, v3) : EM), ((⟨1, [(0, 0, 4), (4, 0, 4)], [false, false], 2, 0, 0, 0, [], ⟨#[]⟩⟩ : Ev), v4, v5, v6)])).1.map Voi.sndOf = [⟨(0, 0, 4), (0, 1), (1, 2), [3]⟩, ⟨(2, 0, 4), (0, 1), (1, 4), [3]⟩, ⟨(4, 0, 4), (1, 4), (1, 4), []⟩] := by kernel_rfl
theorem ex_at (v1 v2 v3 v4 v5 v6 : Value) : Voi.atOf (3, 8) (0, false) (Voi.spn [(((⟨1, [(0, 0, 4), (2, 0, 4)], [true, false], 2, 0, 0, 0, [3], ⟨#[]⟩⟩ : Ev), v1, v2, v3) : EM), ((⟨1, [(0, 0, 4), (4, 0, 4)], [false, false], 2, 0, 0, 0, [], ⟨#[]⟩⟩ : Ev), v4, v5, v6)]) = (1, true) := by kernel_rfl
theorem ex_out (v1 v2 v3 v4 v5 v6 : Value) : Voi.atOf (1, 2) (0, false) (Voi.spn [(((⟨1, [(0, 0, 4), (2, 0, 4)], [true, false], 2, 0, 0, 0, [3], ⟨#[]⟩⟩ : Ev), v1, v2, v3) : EM), ((⟨1, [(0, 0, 4), (4, 0, 4)], [false, false], 2, 0, 0, 0, [], ⟨#[]⟩⟩ : Ev), v4, v5, v6)]) = (0, false) := by kernel_rfl
theorem ex_chk : Voi.chk [(⟨1, [(0, 0, 4), (2, 0, 4)], [true, false], 2, 0, 0, 0, [3], ⟨#[]⟩⟩ : Ev), (⟨0, [], [], 2, 0, 0, 0, [], ⟨#[]⟩⟩ : Ev)] = (0, 71) := by kernel_rfl
theorem ex_same : Voi.same [(⟨1, [(0, 0, 4), (2, 0, 4)], [true, false], 2, 0, 0, 0, [3], ⟨#[]⟩⟩ : Ev), (⟨1, [(0, 0, 4), (4, 0, 4)], [false, false], 2, 0, 0, 0, [], ⟨#[]⟩⟩ : Ev)] [(⟨1, [(0, 0, 4), (2, 0, 4)], [true, false], 2, 0, 0, 0, [3], ⟨#[]⟩⟩ : Ev), (⟨1, [(0, 0, 4), (4, 0, 4)], [false, false], 2, 0, 0, 0, [], ⟨#[]⟩⟩ : Ev)] = true := by kernel_rfl
theorem ex_unlike : Voi.same [(⟨1, [(0, 0, 4), (2, 0, 4)], [true, false], 2, 0, 0, 0, [3], ⟨#[]⟩⟩ : Ev), (⟨1, [(0, 0, 4), (4, 0, 4)], [false, false], 2, 0, 0, 0, [], ⟨#[]⟩⟩ : Ev)] [(⟨1, [(0, 0, 4), (2, 0, 4)], [true, false], 2, 0, 0, 0, [3], ⟨#[]⟩⟩ : Ev), (⟨0, [], [], 2, 0, 0, 0, [], ⟨#[]⟩⟩ : Ev)] = false := by kernel_rfl
theorem ex_meter : Met.right 5 8 [] = true := by kernel_rfl
theorem ex_of : Met.of 5 8 = (5, 8) := by kernel_rfl
theorem ex_nometer : Met.right 0 0 [] = false := by kernel_rfl
theorem ex_kind : Spl.Val.spK 5 8 = 0 := by kernel_rfl
theorem ex_fills : Val.Fills (Val.uI 5 8 0) 2 := ⟨by kernel_rfl, fun j hj => by
  obtain rfl | rfl : j = 0 ∨ j = 1 := by omega
  · exact of_decide_eq_true (by kernel_rfl)
  · exact of_decide_eq_true (by kernel_rfl)⟩
theorem ex_rests : restsL (Spl.prt (Val.uI 5 8 0) (Val.kN 0) (Val.kE 0)) 2 = [restM (1, 0, 0, 0), restM (3, 0, 0, 0)] := by kernel_rfl
theorem encE_len (x : EM) : (encE x).length = 9 := rfl
theorem cell_new (w : World) (cs : Array Value) (t : TypeId) (j : Nat) : (w.alloc (.cells cs t)).cell? ⟨w.heap.size, j, none⟩ = cs[j]? := by
  have h := block_new w (.cells cs t)
  unfold World.cell?
  simp only [h]
  rfl
theorem evs_new {w : World} {ys : List EM} (hl : ys.length ≤ 140737488355328) (h : ∀ y ∈ ys, EvR w y.2.1 y.2.2.1 y.2.2.2 y.1) : Evs (w.alloc (.cells (ys.flatMap encE).toArray 51)) (.slice (some ⟨w.heap.size, 0, none⟩) ys.length ys.length) ys := by
  refine ⟨⟨_, ys.length, rfl, hl, Nat.le_refl _, fun i y hi => ⟨w.heap.size, 0, rfl, fun j u hu => ?_⟩⟩, fun y hy => (h y hy).later ((Below.refl _ _).alloc (Nat.le_refl _) _)⟩
  have hj : j < 9 := by rw [← encE_len y]; exact (List.getElem?_eq_some_iff.1 hu).1
  rw [cell_new, Nat.zero_add, List.getElem?_toArray, flat_at encE_len ys i y j hi hj]
  exact hu
theorem sl_new {α : Type} {enc : α → List Value} {k : Nat} (hk : ∀ x, (enc x).length = k) {w : World} (l : List α) (t : TypeId) (hl : l.length ≤ 140737488355328) : Sl k enc (w.alloc (.cells (l.flatMap enc).toArray t)) (.slice (some ⟨w.heap.size, 0, none⟩) l.length l.length) l :=
  ⟨_, l.length, rfl, hl, Nat.le_refl _, fun i y hi => ⟨w.heap.size, 0, rfl, fun j u hu => by
    have hj : j < k := by rw [← hk y]; exact (List.getElem?_eq_some_iff.1 hu).1
    rw [cell_new, Nat.zero_add, List.getElem?_toArray, flat_at hk l i y j hi hj]
    exact hu⟩⟩

theorem allocs_old : ∀ (l : List Obj) (w : World) (k : Nat) (o : Obj), w.heap[k]? = some o → (l.foldl World.alloc w).heap[k]? = some o
  | [], _, _, _, h => h
  | x :: l, w, k, o, h => allocs_old l (w.alloc x) k o (block_old h)
theorem allocs_at : ∀ (l : List Obj) (w : World) (j : Nat) (o : Obj), l[j]? = some o → (l.foldl World.alloc w).heap[w.heap.size + j]? = some o
  | [], _, _, _, h => by simp at h
  | x :: l, w, 0, o, h => by
    simp at h
    subst h
    exact allocs_old l (w.alloc x) _ _ (block_new w x)
  | x :: l, w, j + 1, o, h => by
    have := allocs_at l (w.alloc x) j o (by simpa using h)
    rw [World.size_alloc] at this
    rw [show w.heap.size + (j + 1) = w.heap.size + 1 + j by omega]
    exact this
theorem sl_block {α : Type} {enc : α → List Value} {k : Nat} (hk : ∀ x, (enc x).length = k) {W : World} {B : Nat} {t : TypeId} (l : List α) (hl : l.length ≤ 140737488355328) (h : W.heap[B]? = some (.cells (l.flatMap enc).toArray t (0, 0))) : Sl k enc W (.slice (some ⟨B, 0, none⟩) l.length l.length) l :=
  ⟨_, l.length, rfl, hl, Nat.le_refl _, fun i y hi => ⟨B, 0, rfl, fun j u hu => by
    have hj : j < k := by rw [← hk y]; exact (List.getElem?_eq_some_iff.1 hu).1
    refine cell_of_cells h ?_
    rw [Nat.zero_add, List.getElem?_toArray, flat_at hk l i y j hi hj]
    exact hu⟩⟩

theorem vlength_is {ys : List EM} {a b e : Int} (hq : Voi.endOf (0, 1) (Voi.spn ys) = ((a, b), e)) (v : Value) (w : World) (h : Evs w v ys) (hR : Ready w) : Calls Tryd.prog 14 #[.agg #[v]] w fun ed w' => ed = .returned (rv a b e) ∧ Below w.heap.size w w' := by
  have := vlength_any v ys w h hR
  rw [hq] at this
  exact this
theorem vat_is {ys : List EM} {a0 a1 k : Int} {q : Bool} (hr : Rat.right a0 a1 = true) (hq : Voi.atOf (a0, a1) (0, false) (Voi.spn ys) = (k, q)) (v : Value) (w : World) (h : Evs w v ys) (hR : Ready w) : Calls Tryd.prog 17 #[.agg #[v], rt a0 a1] w fun ed w' => ed = .returned (.tuple #[.int .i64 k, .bool q]) ∧ Below w.heap.size w w' := by
  have := vat_yes v ys a0 a1 w h hR hr
  rw [hq] at this
  exact this
theorem vstarts_ok {ys : List EM} {l : List Voi.R2} (he : Voi.errOf (Voi.spn ys) = 0) (hl : (Voi.spn ys).map Voi.Sp.fr = l) (v : Value) (w : World) (h : Evs w v ys) (hR : Ready w) :
    Calls Tryd.prog 13 #[.agg #[v]] w fun ed w' => (∃ p c, ed = .returned (.tuple #[.slice p l.length c, .int .i64 0]) ∧ Sl 2 encR w' (.slice p l.length c) l) ∧ Below w.heap.size w w' := by
  refine (vstarts_any v ys w h hR).mono ?_
  rintro e w' ⟨⟨h1, _⟩, hb⟩
  obtain ⟨u, rfl, hs⟩ := h1 he
  rw [hl] at hs
  obtain ⟨p, c, rfl, _⟩ := sl_shape hs
  exact ⟨⟨p, c, rfl, hs⟩, hb⟩
theorem vstarts_no {ys : List EM} {e : Int} (he : Voi.errOf (Voi.spn ys) = e) (hne : e ≠ 0) (v : Value) (w : World) (h : Evs w v ys) (hR : Ready w) :
    Calls Tryd.prog 13 #[.agg #[v]] w fun ed w' => ed = .returned (.tuple #[.slice none 0 0, .int .i64 e]) ∧ Below w.heap.size w w' := by
  subst he
  refine (vstarts_any v ys w h hR).mono ?_
  rintro e w' ⟨⟨_, h1⟩, hb⟩
  exact ⟨h1 hne, hb⟩
theorem vsounds_ok {ys : List EM} {l : List Voi.Snd} (he : Voi.errOf (Voi.spn ys) = 0) (hm : Voi.measE (Voi.runsOf (Voi.spn ys)).1 = 0) (hl : (Voi.runsOf (Voi.spn ys)).1.map Voi.sndOf = l) (v : Value) (w : World) (h : Evs w v ys) (hR : Ready w) :
    Calls Tryd.prog 12 #[.agg #[v]] w fun ed w' => (∃ p c m, ed = .returned (.tuple #[.slice p l.length c, .int .i64 0]) ∧ Snds w' (.slice p l.length c) m ∧ m.map Prod.fst = l) ∧ Below w.heap.size w w' := by
  refine (vsounds_any v ys w h hR).mono ?_
  rintro e w' ⟨⟨_, _, h1⟩, hb⟩
  obtain ⟨u, m, rfl, hs, e⟩ := h1 he hm
  rw [hl] at e
  obtain ⟨p, c, rfl, _⟩ := sl_shape hs.row
  have el : m.length = l.length := by rw [← e, List.length_map]
  rw [el] at hs ⊢
  exact ⟨⟨p, c, m, rfl, hs, e⟩, hb⟩
theorem vsounds_no {ys : List EM} {e : Int} (he : Voi.errOf (Voi.spn ys) = e) (hne : e ≠ 0) (v : Value) (w : World) (h : Evs w v ys) (hR : Ready w) :
    Calls Tryd.prog 12 #[.agg #[v]] w fun ed w' => ed = .returned (.tuple #[.slice none 0 0, .int .i64 e]) ∧ Below w.heap.size w w' := by
  subst he
  refine (vsounds_any v ys w h hR).mono ?_
  rintro e w' ⟨⟨h1, _, _⟩, hb⟩
  exact ⟨h1 hne, hb⟩
theorem snds_at {W : World} {p : Option Addr} {n c : Nat} {l : List SoM} (h : Snds W (.slice p n c) l) {i : Nat} {y : SoM} (hy : l[i]? = some y) : ∃ b o, p = some ⟨b, o, .none⟩ ∧ ∀ (j : Nat) (u : Value), (encSo y)[j]? = some u → W.cell? ⟨b, o + i * 8 + j, none⟩ = some u := by
  obtain ⟨p', c', e, _, _, hc⟩ := h.row
  cases e
  exact hc i y hy
theorem rats_at {W : World} {p : Option Addr} {n c : Nat} {l : List Voi.R2} (h : Sl 2 encR W (.slice p n c) l) {i : Nat} {y : Voi.R2} (hy : l[i]? = some y) : ∃ b o, p = some ⟨b, o, .none⟩ ∧ W.cell? ⟨b, o + i * 2, none⟩ = some (.int .i64 y.1) ∧ W.cell? ⟨b, o + i * 2 + 1, none⟩ = some (.int .i64 y.2) := by
  obtain ⟨p', c', e, _, _, hc⟩ := h
  cases e
  obtain ⟨b, o, e, hc⟩ := hc i y hy
  exact ⟨b, o, e, hc 0 _ rfl, hc 1 _ rfl⟩
end Go.Proofs.YtobhmiknlbjmkaaDoor
