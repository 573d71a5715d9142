/-
  The contract of the reference's put.
-/
import Derived.Test.YtnfnonlbokddfaaDoorEvRefR
import Derived.Test.YtnfnonlbokddfaaDoorEvE
import Derived.Test.YtnfnonlbokddfaaDoorEvSum
import Derived.Maps.AppendAt
import Derived.Deep.CutBlock
import Derived.Deep.DeepCutAuto
namespace Go.Proofs.YtnfnonlbokddfaaDoor
open Go.RowKit
open Evt (P3 Ev)

/-- A pitch put where it belongs: at its place. -/
theorem Evt.putL_at {p : P3} {t : Bool} : ∀ {l : List Evt.PT} {k : Nat}, (∀ (j : Nat) q, j < k → l[j]? = some q → Evt.ky q.1 < Evt.ky p) →
    (k = l.length → Evt.putL p t l = l ++ [(p, t)]) ∧ ∀ q u, l[k]? = some (q, u) → ¬ Evt.ky q < Evt.ky p → (q = p → Evt.putL p t l = l.take k ++ (p, t || u) :: l.drop (k + 1)) ∧ (q ≠ p → Evt.putL p t l = l.take k ++ (p, t) :: l.drop k)
  | [], k, _ => ⟨fun _ => rfl, fun q u h => by simp at h⟩
  | (a, b) :: r, 0, _ => ⟨fun h => by simp at h, fun q u h hn => by
      simp at h
      obtain ⟨rfl, rfl⟩ := h
      refine ⟨fun e => ?_, fun e => ?_⟩
      · subst e; unfold Evt.putL; rw [if_neg hn, if_pos rfl]; simp
      · unfold Evt.putL; rw [if_neg hn, if_neg e]; simp⟩
  | (a, b) :: r, k + 1, hj => by
    have h0 := hj 0 (a, b) (by omega) rfl
    obtain ⟨i1, i2⟩ := Evt.putL_at (p := p) (t := t) (l := r) (k := k) (fun j q h1 h2 => hj (j + 1) q (by omega) (by simpa using h2))
    have e : Evt.putL p t ((a, b) :: r) = (a, b) :: Evt.putL p t r := by rw [Evt.putL, if_pos h0]
    refine ⟨fun h => by rw [e, i1 (by simpa using h)]; rfl, fun q u h hn => ?_⟩
    obtain ⟨j1, j2⟩ := i2 q u (by simpa using h) hn
    exact ⟨fun g => by rw [e, j1 g]; rfl, fun g => by rw [e, j2 g]; rfl⟩
theorem Evt.pts_fst {x : Ev} (h : x.ts.length = x.ps.length) : (Evt.pts x).map Prod.fst = x.ps := by unfold Evt.pts; exact List.map_fst_zip (by rw [h]; exact Nat.le_refl _)
theorem Evt.pts_snd {x : Ev} (h : x.ts.length = x.ps.length) : (Evt.pts x).map Prod.snd = x.ts := by unfold Evt.pts; exact List.map_snd_zip (by rw [h]; exact Nat.le_refl _)
theorem Evt.pts_get {x : Ev} {k : Nat} {q : P3} {u : Bool} (hq : x.ps[k]? = some q) (hu : x.ts[k]? = some u) : (Evt.pts x)[k]? = some (q, u) := by unfold Evt.pts; rw [List.getElem?_zip_eq_some]; exact ⟨hq, hu⟩
theorem Evt.pts_below {x : Ev} {p : P3} {k : Nat} (h : ∀ (j : Nat) q, j < k → x.ps[j]? = some q → Evt.ky q < Evt.ky p) : ∀ (j : Nat) q, j < k → (Evt.pts x)[j]? = some q → Evt.ky q.1 < Evt.ky p := fun j q hj hq => by
  obtain ⟨a, b⟩ := q
  unfold Evt.pts at hq
  rw [List.getElem?_zip_eq_some] at hq
  exact h j a hj hq.1
/-- What comes of an event when a pitch is put. -/
def Evt.putE (p : P3) (t : Bool) (x : Ev) : Ev := { x with ps := (Evt.putL p t (Evt.pts x)).map Prod.fst, ts := (Evt.putL p t (Evt.pts x)).map Prod.snd }
theorem Evt.putE_end {x : Ev} {p : P3} {t : Bool} {k : Nat} (hl : x.ts.length = x.ps.length) (hb : ∀ (j : Nat) q, j < k → x.ps[j]? = some q → Evt.ky q < Evt.ky p) (hk : k = x.ps.length) : x.ps.take k ++ [p] ++ x.ps.drop k = (Evt.putE p t x).ps ∧ x.ts.take k ++ [t] ++ x.ts.drop k = (Evt.putE p t x).ts := by
  have hlen : (Evt.pts x).length = x.ps.length := by have := congrArg List.length (Evt.pts_fst hl); simpa using this
  have h := (Evt.putL_at (t := t) (Evt.pts_below hb)).1 (by rw [hlen]; exact hk)
  unfold Evt.putE
  dsimp only
  rw [h, List.map_append, List.map_append, Evt.pts_fst hl, Evt.pts_snd hl]
  subst hk
  refine ⟨by simp, ?_⟩
  rw [← hl]; simp
theorem Evt.putE_in {x : Ev} {p q : P3} {t u : Bool} {k : Nat} (hl : x.ts.length = x.ps.length) (hb : ∀ (j : Nat) q, j < k → x.ps[j]? = some q → Evt.ky q < Evt.ky p) (hq : x.ps[k]? = some q) (hu : x.ts[k]? = some u) (hn : ¬ Evt.ky q < Evt.ky p) :
    (q = p → x.ps.take k ++ [p] ++ x.ps.drop (k + 1) = (Evt.putE p t x).ps ∧ x.ts.take k ++ [t || u] ++ x.ts.drop (k + 1) = (Evt.putE p t x).ts) ∧
    (q ≠ p → x.ps.take k ++ [p] ++ x.ps.drop k = (Evt.putE p t x).ps ∧ x.ts.take k ++ [t] ++ x.ts.drop k = (Evt.putE p t x).ts) := by
  obtain ⟨h1, h2⟩ := (Evt.putL_at (t := t) (Evt.pts_below hb)).2 q u (Evt.pts_get hq hu) hn
  unfold Evt.putE
  dsimp only
  refine ⟨fun e => ?_, fun e => ?_⟩
  · rw [h1 e, List.map_append, List.map_append, List.map_cons, List.map_cons, List.map_take, List.map_take, List.map_drop, List.map_drop, Evt.pts_fst hl, Evt.pts_snd hl]
    simp
  · rw [h2 e, List.map_append, List.map_append, List.map_cons, List.map_cons, List.map_take, List.map_take, List.map_drop, List.map_drop, Evt.pts_fst hl, Evt.pts_snd hl]
    simp
theorem own_shape2 {W : World} {base : Nat} {e : TypeId} {k n : Nat} {v : Value} {xs : List Value} (h : W.ownsRow base e k v n xs) : ∃ p c, v = .slice p n c := by
  rcases h.2 with ⟨rfl, h0⟩ | ⟨g, cap, cur, rfl, _⟩
  · exact ⟨_, _, by rw [h0]⟩
  · exact ⟨_, _, rfl⟩
/-- Two rows of the call's own, apart: pitches and ties. -/
structure Two (base : Nat) (W : World) (v u : Value) (n : Nat) (a : List P3) (b : List Bool) : Prop where
  P : W.ownsRow base 57 3 v n (a.flatMap encP)
  T : W.ownsRow base 4 1 u n (b.flatMap encB)
  apart : ∀ g, v.ownBlock = some g → u.ownBlock ≠ some g
/-- .. one of which has one more. -/
structure TwoP (base : Nat) (W : World) (v u : Value) (n : Nat) (a : List P3) (b : List Bool) : Prop where
  P : W.ownsRow base 57 3 v (n + 1) (a.flatMap encP)
  T : W.ownsRow base 4 1 u n (b.flatMap encB)
  apart : ∀ g, v.ownBlock = some g → u.ownBlock ≠ some g
theorem Two.nil (base : Nat) (W : World) : Two base W (.slice none 0 0) (.slice none 0 0) 0 [] [] := ⟨World.ownsRow_nil _ _ _ _, World.ownsRow_nil _ _ _ _, fun g h => by cases h⟩
theorem Two.later {base : Nat} {W W' : World} {v u : Value} {n : Nat} {a : List P3} {b : List Bool} (h : Two base W v u n a b) (hb : Below W.heap.size W W') : Two base W' v u n a b := ⟨own_later h.P hb, own_later h.T hb, h.apart⟩
theorem apart_P {v u v' : Value} (h : ∀ g, v.ownBlock = some g → u.ownBlock ≠ some g) {n : Nat} (hu : ∀ g, u.ownBlock = some g → g < n) (hv : v'.ownBlock = v.ownBlock ∨ v'.ownBlock = some n) : ∀ g, v'.ownBlock = some g → u.ownBlock ≠ some g := fun g hg hug => by
  rcases hv with e | e
  · exact h g (e.symm.trans hg) hug
  · have := hu g hug; rw [e] at hg; cases hg; omega
theorem Two.pushP {base : Nat} {W w2 : World} {v u v' : Value} {n : Nat} {a : List P3} {b : List Bool} {x0 x1 x2 : Int} {o : Obj} (h : Two base W v u n a b) (hown : w2.ownsRow base 57 3 v' (n + 1) (a.flatMap encP ++ [.int .i64 x0, .int .i64 x1, .int .i64 x2]))
    (hg : (W.alloc o).grownBy w2 v.ownBlock) (hv : v'.ownBlock = v.ownBlock ∨ v'.ownBlock = some (W.alloc o).heap.size) : TwoP base w2 v' u n (a ++ [(x0, x1, x2)]) b := by
  refine ⟨by rw [List.flatMap_append]; simpa [encP] using hown, (h.T.alloc o).kept hg ?_, apart_P h.apart (fun g hg => ((h.T.alloc o).lt g hg).2) hv⟩
  cases hu : u.ownBlock with
  | none => exact Or.inl rfl
  | some g => exact Or.inr fun e => h.apart g e.symm hu
theorem TwoP.pushT {base : Nat} {W w2 : World} {v u u' : Value} {n : Nat} {a : List P3} {b : List Bool} {t : Bool} {o : Obj} (h : TwoP base W v u n a b) (hown : w2.ownsRow base 4 1 u' (n + 1) (b.flatMap encB ++ [.bool t]))
    (hg : (W.alloc o).grownBy w2 u.ownBlock) (hv : u'.ownBlock = u.ownBlock ∨ u'.ownBlock = some (W.alloc o).heap.size) : Two base w2 v u' (n + 1) a (b ++ [t]) := by
  refine ⟨(h.P.alloc o).kept hg ?_, by rw [List.flatMap_append]; simpa [encB] using hown, fun g h1 h2 => ?_⟩
  · cases hu : v.ownBlock with
    | none => exact Or.inl rfl
    | some g => exact Or.inr fun e => h.apart g hu e.symm
  · exact apart_P (v := u) (u := v) (v' := u') (fun g a b => h.apart g b a) (fun g hg => ((h.P.alloc o).lt g hg).2) hv g h2 h1
theorem push_below {base n k : Nat} {W W0 w2 : World} {v : Value} {e : TypeId} {xs : List Value} {o : Obj} (h : W.ownsRow base e k v n xs) (hb : Below base W0 W) (hs : base ≤ W.heap.size) (hg : (W.alloc o).grownBy w2 v.ownBlock) : Below base W0 w2 :=
  (hb.alloc hs o).trans ((Below.refl _ _).grown hg (by simp; omega) (fun j hj => (h.lt j hj).1))
theorem one3 (x y z : Int) : ∀ u ∈ [Value.int .i64 x, Value.int .i64 y, Value.int .i64 z], u.oneCell' = true := by intro u hu; simp at hu; rcases hu with rfl | rfl | rfl <;> rfl
theorem one1 (t : Bool) : ∀ u ∈ [Value.bool t], u.oneCell' = true := by intro u hu; simp at hu; subst hu; rfl
/-- The first loop's state: all so far are lower. -/
def PutAt (l : List P3) (T : List Bool) (p : P3) (W1 : World) (v u i : Value) (wr : World) : Prop := ∃ k : Nat, k ≤ l.length ∧ i = .int .i64 (k : Int) ∧ (∀ (j : Nat) q, j < k → l[j]? = some q → Evt.ky q < Evt.ky p) ∧ Two W1.heap.size wr v u k (l.take k) (T.take k) ∧ Below W1.heap.size W1 wr
/-- The last loop's. -/
def PutBt (l : List P3) (T : List Bool) (A : List P3) (B : List Bool) (n st : Nat) (W1 : World) (v u i : Value) (wr : World) : Prop := ∃ j : Nat, st + j ≤ l.length ∧ i = .int .i64 ((st + j : Nat) : Int) ∧ Two W1.heap.size wr v u (n + j) (A ++ (l.drop st).take j) (B ++ (T.drop st).take j) ∧ Below W1.heap.size W1 wr
theorem drop_take_succ {α : Type} {l : List α} {st j : Nat} {x : α} (h : l[st + j]? = some x) : (l.drop st).take (j + 1) = (l.drop st).take j ++ [x] := take_succ_at (by rw [List.getElem?_drop]; exact h)
/-- What put answers. -/
def PutRes (y : Ev) (vm : Value) (w : World) (ed : Ending) (w' : World) : Prop := ∃ vp vt, ed = .returned (evv y vp vt vm) ∧ Pits w' vp y.ps ∧ Bools w' vt y.ts ∧ Own w.heap.size vp ∧ Own w.heap.size vt ∧ Below w.heap.size w w'

theorem put9_sl {α : Type} {q : Nat} {enc : α → List Value} {w : World} {B : Nat} {x0 x1 x2 x3 x4 x5 x6 x7 x8 v : Value} {l : List α} (h : Sl q enc w v l) (ho : Own (B + 1) v) : Sl q enc (put9 w B x0 x1 x2 x3 x4 x5 x6 x7 x8) v l :=
  ((((((((h.set ho (by omega)).set ho (by omega)).set ho (by omega)).set ho (by omega)).set ho (by omega)).set ho (by omega)).set ho (by omega)).set ho (by omega)).set ho (by omega)
theorem below_succ {l : List P3} {p x : P3} {k : Nat} (hb : ∀ (j : Nat) q, j < k → l[j]? = some q → Evt.ky q < Evt.ky p) (hx : l[k]? = some x) (h : Evt.ky x < Evt.ky p) : ∀ (j : Nat) q, j < k + 1 → l[j]? = some q → Evt.ky q < Evt.ky p := fun j q hj hq => by
  by_cases e : j = k
  · subst e; rw [hx] at hq; cases hq; exact h
  · exact hb j q (by omega) hq

set_option maxRecDepth 100000 in
set_option maxHeartbeats 40000000 in
theorem put_walk (x : Ev) (vp vt vm : Value) (p0 p1 p2 : Int) (t : Bool) (w : World) (h0 : EvR w vp vt vm x) (hl : Hid (x.ts.length = x.ps.length)) (hr : Hid (x.ps.all Evt.rgt = true)) (hp : Hid (Evt.rgt (p0, p1, p2) = true)) (n8 : x.ps.length ≤ 1000) :
    Calls Tryd.prog 49 #[evv x vp vt vm, pt p0 p1 p2, .bool t] w (PutRes (Evt.putE (p0, p1, p2) t x) vm w) := by
  obtain ⟨k0, ps, ts, b, d, n, e0, ms, str⟩ := x
  have HX0 := Lib.hid h0
  obtain ⟨Pps, Cps, e1, _⟩ := sl_shape h0.ps
  obtain ⟨Pts, Cts, e2, _⟩ := sl_shape h0.ts
  obtain ⟨Pms, Cms, e3, _⟩ := sl_shape h0.ms
  dsimp only at e1 e2 e3
  subst e1 e2 e3
  clear h0
  have hB0 : Below w.heap.size w w := Below.refl _ _
  go_enter Tryd.func49, Tryd.ntmps49
  go_wp2
  have hs1 : Below w.heap.size w (((w.alloc (.cells #[.int .i64 k0, .slice Pps ps.length Cps, .slice Pts ts.length Cts, .int .i64 b, .int .i64 d, .int .i64 n, .int .i64 e0, .slice Pms ms.length Cms, .string str] 28)).alloc (.cells #[.int .i64 p0, .int .i64 p1, .int .i64 p2] 57)).alloc (.cells #[.int .i64 0, .slice none 0 0, .slice none 0 0, .int .i64 0, .int .i64 0, .int .i64 0, .int .i64 0, .slice none 0 0, .string ⟨#[]⟩] 28)) := by repeat (first | exact Below.refl _ _ | refine Below.alloc ?_ (by simp <;> omega) _)
  have c_e_0 : (((w.alloc (.cells #[.int .i64 k0, .slice Pps ps.length Cps, .slice Pts ts.length Cts, .int .i64 b, .int .i64 d, .int .i64 n, .int .i64 e0, .slice Pms ms.length Cms, .string str] 28)).alloc (.cells #[.int .i64 p0, .int .i64 p1, .int .i64 p2] 57)).alloc (.cells #[.int .i64 0, .slice none 0 0, .slice none 0 0, .int .i64 0, .int .i64 0, .int .i64 0, .int .i64 0, .slice none 0 0, .string ⟨#[]⟩] 28)).cell? ⟨w.heap.size, 0, none⟩ = some (.int .i64 k0) := by go_simp
  have f_e_0 : (((w.alloc (.cells #[.int .i64 k0, .slice Pps ps.length Cps, .slice Pts ts.length Cts, .int .i64 b, .int .i64 d, .int .i64 n, .int .i64 e0, .slice Pms ms.length Cms, .string str] 28)).alloc (.cells #[.int .i64 p0, .int .i64 p1, .int .i64 p2] 57)).alloc (.cells #[.int .i64 0, .slice none 0 0, .slice none 0 0, .int .i64 0, .int .i64 0, .int .i64 0, .int .i64 0, .slice none 0 0, .string ⟨#[]⟩] 28)).frozen? ⟨w.heap.size, 0, none⟩ = false := by go_simp
  have c_e_1 : (((w.alloc (.cells #[.int .i64 k0, .slice Pps ps.length Cps, .slice Pts ts.length Cts, .int .i64 b, .int .i64 d, .int .i64 n, .int .i64 e0, .slice Pms ms.length Cms, .string str] 28)).alloc (.cells #[.int .i64 p0, .int .i64 p1, .int .i64 p2] 57)).alloc (.cells #[.int .i64 0, .slice none 0 0, .slice none 0 0, .int .i64 0, .int .i64 0, .int .i64 0, .int .i64 0, .slice none 0 0, .string ⟨#[]⟩] 28)).cell? ⟨w.heap.size, 1, none⟩ = some (.slice Pps ps.length Cps) := by go_simp
  have f_e_1 : (((w.alloc (.cells #[.int .i64 k0, .slice Pps ps.length Cps, .slice Pts ts.length Cts, .int .i64 b, .int .i64 d, .int .i64 n, .int .i64 e0, .slice Pms ms.length Cms, .string str] 28)).alloc (.cells #[.int .i64 p0, .int .i64 p1, .int .i64 p2] 57)).alloc (.cells #[.int .i64 0, .slice none 0 0, .slice none 0 0, .int .i64 0, .int .i64 0, .int .i64 0, .int .i64 0, .slice none 0 0, .string ⟨#[]⟩] 28)).frozen? ⟨w.heap.size, 1, none⟩ = false := by go_simp
  have c_e_2 : (((w.alloc (.cells #[.int .i64 k0, .slice Pps ps.length Cps, .slice Pts ts.length Cts, .int .i64 b, .int .i64 d, .int .i64 n, .int .i64 e0, .slice Pms ms.length Cms, .string str] 28)).alloc (.cells #[.int .i64 p0, .int .i64 p1, .int .i64 p2] 57)).alloc (.cells #[.int .i64 0, .slice none 0 0, .slice none 0 0, .int .i64 0, .int .i64 0, .int .i64 0, .int .i64 0, .slice none 0 0, .string ⟨#[]⟩] 28)).cell? ⟨w.heap.size, 2, none⟩ = some (.slice Pts ts.length Cts) := by go_simp
  have f_e_2 : (((w.alloc (.cells #[.int .i64 k0, .slice Pps ps.length Cps, .slice Pts ts.length Cts, .int .i64 b, .int .i64 d, .int .i64 n, .int .i64 e0, .slice Pms ms.length Cms, .string str] 28)).alloc (.cells #[.int .i64 p0, .int .i64 p1, .int .i64 p2] 57)).alloc (.cells #[.int .i64 0, .slice none 0 0, .slice none 0 0, .int .i64 0, .int .i64 0, .int .i64 0, .int .i64 0, .slice none 0 0, .string ⟨#[]⟩] 28)).frozen? ⟨w.heap.size, 2, none⟩ = false := by go_simp
  have c_e_3 : (((w.alloc (.cells #[.int .i64 k0, .slice Pps ps.length Cps, .slice Pts ts.length Cts, .int .i64 b, .int .i64 d, .int .i64 n, .int .i64 e0, .slice Pms ms.length Cms, .string str] 28)).alloc (.cells #[.int .i64 p0, .int .i64 p1, .int .i64 p2] 57)).alloc (.cells #[.int .i64 0, .slice none 0 0, .slice none 0 0, .int .i64 0, .int .i64 0, .int .i64 0, .int .i64 0, .slice none 0 0, .string ⟨#[]⟩] 28)).cell? ⟨w.heap.size, 3, none⟩ = some (.int .i64 b) := by go_simp
  have f_e_3 : (((w.alloc (.cells #[.int .i64 k0, .slice Pps ps.length Cps, .slice Pts ts.length Cts, .int .i64 b, .int .i64 d, .int .i64 n, .int .i64 e0, .slice Pms ms.length Cms, .string str] 28)).alloc (.cells #[.int .i64 p0, .int .i64 p1, .int .i64 p2] 57)).alloc (.cells #[.int .i64 0, .slice none 0 0, .slice none 0 0, .int .i64 0, .int .i64 0, .int .i64 0, .int .i64 0, .slice none 0 0, .string ⟨#[]⟩] 28)).frozen? ⟨w.heap.size, 3, none⟩ = false := by go_simp
  have c_e_4 : (((w.alloc (.cells #[.int .i64 k0, .slice Pps ps.length Cps, .slice Pts ts.length Cts, .int .i64 b, .int .i64 d, .int .i64 n, .int .i64 e0, .slice Pms ms.length Cms, .string str] 28)).alloc (.cells #[.int .i64 p0, .int .i64 p1, .int .i64 p2] 57)).alloc (.cells #[.int .i64 0, .slice none 0 0, .slice none 0 0, .int .i64 0, .int .i64 0, .int .i64 0, .int .i64 0, .slice none 0 0, .string ⟨#[]⟩] 28)).cell? ⟨w.heap.size, 4, none⟩ = some (.int .i64 d) := by go_simp
  have f_e_4 : (((w.alloc (.cells #[.int .i64 k0, .slice Pps ps.length Cps, .slice Pts ts.length Cts, .int .i64 b, .int .i64 d, .int .i64 n, .int .i64 e0, .slice Pms ms.length Cms, .string str] 28)).alloc (.cells #[.int .i64 p0, .int .i64 p1, .int .i64 p2] 57)).alloc (.cells #[.int .i64 0, .slice none 0 0, .slice none 0 0, .int .i64 0, .int .i64 0, .int .i64 0, .int .i64 0, .slice none 0 0, .string ⟨#[]⟩] 28)).frozen? ⟨w.heap.size, 4, none⟩ = false := by go_simp
  have c_e_5 : (((w.alloc (.cells #[.int .i64 k0, .slice Pps ps.length Cps, .slice Pts ts.length Cts, .int .i64 b, .int .i64 d, .int .i64 n, .int .i64 e0, .slice Pms ms.length Cms, .string str] 28)).alloc (.cells #[.int .i64 p0, .int .i64 p1, .int .i64 p2] 57)).alloc (.cells #[.int .i64 0, .slice none 0 0, .slice none 0 0, .int .i64 0, .int .i64 0, .int .i64 0, .int .i64 0, .slice none 0 0, .string ⟨#[]⟩] 28)).cell? ⟨w.heap.size, 5, none⟩ = some (.int .i64 n) := by go_simp
  have f_e_5 : (((w.alloc (.cells #[.int .i64 k0, .slice Pps ps.length Cps, .slice Pts ts.length Cts, .int .i64 b, .int .i64 d, .int .i64 n, .int .i64 e0, .slice Pms ms.length Cms, .string str] 28)).alloc (.cells #[.int .i64 p0, .int .i64 p1, .int .i64 p2] 57)).alloc (.cells #[.int .i64 0, .slice none 0 0, .slice none 0 0, .int .i64 0, .int .i64 0, .int .i64 0, .int .i64 0, .slice none 0 0, .string ⟨#[]⟩] 28)).frozen? ⟨w.heap.size, 5, none⟩ = false := by go_simp
  have c_e_6 : (((w.alloc (.cells #[.int .i64 k0, .slice Pps ps.length Cps, .slice Pts ts.length Cts, .int .i64 b, .int .i64 d, .int .i64 n, .int .i64 e0, .slice Pms ms.length Cms, .string str] 28)).alloc (.cells #[.int .i64 p0, .int .i64 p1, .int .i64 p2] 57)).alloc (.cells #[.int .i64 0, .slice none 0 0, .slice none 0 0, .int .i64 0, .int .i64 0, .int .i64 0, .int .i64 0, .slice none 0 0, .string ⟨#[]⟩] 28)).cell? ⟨w.heap.size, 6, none⟩ = some (.int .i64 e0) := by go_simp
  have f_e_6 : (((w.alloc (.cells #[.int .i64 k0, .slice Pps ps.length Cps, .slice Pts ts.length Cts, .int .i64 b, .int .i64 d, .int .i64 n, .int .i64 e0, .slice Pms ms.length Cms, .string str] 28)).alloc (.cells #[.int .i64 p0, .int .i64 p1, .int .i64 p2] 57)).alloc (.cells #[.int .i64 0, .slice none 0 0, .slice none 0 0, .int .i64 0, .int .i64 0, .int .i64 0, .int .i64 0, .slice none 0 0, .string ⟨#[]⟩] 28)).frozen? ⟨w.heap.size, 6, none⟩ = false := by go_simp
  have c_e_7 : (((w.alloc (.cells #[.int .i64 k0, .slice Pps ps.length Cps, .slice Pts ts.length Cts, .int .i64 b, .int .i64 d, .int .i64 n, .int .i64 e0, .slice Pms ms.length Cms, .string str] 28)).alloc (.cells #[.int .i64 p0, .int .i64 p1, .int .i64 p2] 57)).alloc (.cells #[.int .i64 0, .slice none 0 0, .slice none 0 0, .int .i64 0, .int .i64 0, .int .i64 0, .int .i64 0, .slice none 0 0, .string ⟨#[]⟩] 28)).cell? ⟨w.heap.size, 7, none⟩ = some (.slice Pms ms.length Cms) := by go_simp
  have f_e_7 : (((w.alloc (.cells #[.int .i64 k0, .slice Pps ps.length Cps, .slice Pts ts.length Cts, .int .i64 b, .int .i64 d, .int .i64 n, .int .i64 e0, .slice Pms ms.length Cms, .string str] 28)).alloc (.cells #[.int .i64 p0, .int .i64 p1, .int .i64 p2] 57)).alloc (.cells #[.int .i64 0, .slice none 0 0, .slice none 0 0, .int .i64 0, .int .i64 0, .int .i64 0, .int .i64 0, .slice none 0 0, .string ⟨#[]⟩] 28)).frozen? ⟨w.heap.size, 7, none⟩ = false := by go_simp
  have c_e_8 : (((w.alloc (.cells #[.int .i64 k0, .slice Pps ps.length Cps, .slice Pts ts.length Cts, .int .i64 b, .int .i64 d, .int .i64 n, .int .i64 e0, .slice Pms ms.length Cms, .string str] 28)).alloc (.cells #[.int .i64 p0, .int .i64 p1, .int .i64 p2] 57)).alloc (.cells #[.int .i64 0, .slice none 0 0, .slice none 0 0, .int .i64 0, .int .i64 0, .int .i64 0, .int .i64 0, .slice none 0 0, .string ⟨#[]⟩] 28)).cell? ⟨w.heap.size, 8, none⟩ = some (.string str) := by go_simp
  have f_e_8 : (((w.alloc (.cells #[.int .i64 k0, .slice Pps ps.length Cps, .slice Pts ts.length Cts, .int .i64 b, .int .i64 d, .int .i64 n, .int .i64 e0, .slice Pms ms.length Cms, .string str] 28)).alloc (.cells #[.int .i64 p0, .int .i64 p1, .int .i64 p2] 57)).alloc (.cells #[.int .i64 0, .slice none 0 0, .slice none 0 0, .int .i64 0, .int .i64 0, .int .i64 0, .int .i64 0, .slice none 0 0, .string ⟨#[]⟩] 28)).frozen? ⟨w.heap.size, 8, none⟩ = false := by go_simp
  have c_p_0 : (((w.alloc (.cells #[.int .i64 k0, .slice Pps ps.length Cps, .slice Pts ts.length Cts, .int .i64 b, .int .i64 d, .int .i64 n, .int .i64 e0, .slice Pms ms.length Cms, .string str] 28)).alloc (.cells #[.int .i64 p0, .int .i64 p1, .int .i64 p2] 57)).alloc (.cells #[.int .i64 0, .slice none 0 0, .slice none 0 0, .int .i64 0, .int .i64 0, .int .i64 0, .int .i64 0, .slice none 0 0, .string ⟨#[]⟩] 28)).cell? ⟨w.heap.size + 1, 0, none⟩ = some (.int .i64 p0) := by go_simp
  have c_p_1 : (((w.alloc (.cells #[.int .i64 k0, .slice Pps ps.length Cps, .slice Pts ts.length Cts, .int .i64 b, .int .i64 d, .int .i64 n, .int .i64 e0, .slice Pms ms.length Cms, .string str] 28)).alloc (.cells #[.int .i64 p0, .int .i64 p1, .int .i64 p2] 57)).alloc (.cells #[.int .i64 0, .slice none 0 0, .slice none 0 0, .int .i64 0, .int .i64 0, .int .i64 0, .int .i64 0, .slice none 0 0, .string ⟨#[]⟩] 28)).cell? ⟨w.heap.size + 1, 1, none⟩ = some (.int .i64 p1) := by go_simp
  have c_p_2 : (((w.alloc (.cells #[.int .i64 k0, .slice Pps ps.length Cps, .slice Pts ts.length Cts, .int .i64 b, .int .i64 d, .int .i64 n, .int .i64 e0, .slice Pms ms.length Cms, .string str] 28)).alloc (.cells #[.int .i64 p0, .int .i64 p1, .int .i64 p2] 57)).alloc (.cells #[.int .i64 0, .slice none 0 0, .slice none 0 0, .int .i64 0, .int .i64 0, .int .i64 0, .int .i64 0, .slice none 0 0, .string ⟨#[]⟩] 28)).cell? ⟨w.heap.size + 1, 2, none⟩ = some (.int .i64 p2) := by go_simp
  have c_r_0 : (((w.alloc (.cells #[.int .i64 k0, .slice Pps ps.length Cps, .slice Pts ts.length Cts, .int .i64 b, .int .i64 d, .int .i64 n, .int .i64 e0, .slice Pms ms.length Cms, .string str] 28)).alloc (.cells #[.int .i64 p0, .int .i64 p1, .int .i64 p2] 57)).alloc (.cells #[.int .i64 0, .slice none 0 0, .slice none 0 0, .int .i64 0, .int .i64 0, .int .i64 0, .int .i64 0, .slice none 0 0, .string ⟨#[]⟩] 28)).cell? ⟨w.heap.size + 1 + 1, 0, none⟩ = some (.int .i64 0) := by go_simp
  have f_r_0 : (((w.alloc (.cells #[.int .i64 k0, .slice Pps ps.length Cps, .slice Pts ts.length Cts, .int .i64 b, .int .i64 d, .int .i64 n, .int .i64 e0, .slice Pms ms.length Cms, .string str] 28)).alloc (.cells #[.int .i64 p0, .int .i64 p1, .int .i64 p2] 57)).alloc (.cells #[.int .i64 0, .slice none 0 0, .slice none 0 0, .int .i64 0, .int .i64 0, .int .i64 0, .int .i64 0, .slice none 0 0, .string ⟨#[]⟩] 28)).frozen? ⟨w.heap.size + 1 + 1, 0, none⟩ = false := by go_simp
  have c_r_1 : (((w.alloc (.cells #[.int .i64 k0, .slice Pps ps.length Cps, .slice Pts ts.length Cts, .int .i64 b, .int .i64 d, .int .i64 n, .int .i64 e0, .slice Pms ms.length Cms, .string str] 28)).alloc (.cells #[.int .i64 p0, .int .i64 p1, .int .i64 p2] 57)).alloc (.cells #[.int .i64 0, .slice none 0 0, .slice none 0 0, .int .i64 0, .int .i64 0, .int .i64 0, .int .i64 0, .slice none 0 0, .string ⟨#[]⟩] 28)).cell? ⟨w.heap.size + 1 + 1, 1, none⟩ = some (.slice none 0 0) := by go_simp
  have f_r_1 : (((w.alloc (.cells #[.int .i64 k0, .slice Pps ps.length Cps, .slice Pts ts.length Cts, .int .i64 b, .int .i64 d, .int .i64 n, .int .i64 e0, .slice Pms ms.length Cms, .string str] 28)).alloc (.cells #[.int .i64 p0, .int .i64 p1, .int .i64 p2] 57)).alloc (.cells #[.int .i64 0, .slice none 0 0, .slice none 0 0, .int .i64 0, .int .i64 0, .int .i64 0, .int .i64 0, .slice none 0 0, .string ⟨#[]⟩] 28)).frozen? ⟨w.heap.size + 1 + 1, 1, none⟩ = false := by go_simp
  have c_r_2 : (((w.alloc (.cells #[.int .i64 k0, .slice Pps ps.length Cps, .slice Pts ts.length Cts, .int .i64 b, .int .i64 d, .int .i64 n, .int .i64 e0, .slice Pms ms.length Cms, .string str] 28)).alloc (.cells #[.int .i64 p0, .int .i64 p1, .int .i64 p2] 57)).alloc (.cells #[.int .i64 0, .slice none 0 0, .slice none 0 0, .int .i64 0, .int .i64 0, .int .i64 0, .int .i64 0, .slice none 0 0, .string ⟨#[]⟩] 28)).cell? ⟨w.heap.size + 1 + 1, 2, none⟩ = some (.slice none 0 0) := by go_simp
  have f_r_2 : (((w.alloc (.cells #[.int .i64 k0, .slice Pps ps.length Cps, .slice Pts ts.length Cts, .int .i64 b, .int .i64 d, .int .i64 n, .int .i64 e0, .slice Pms ms.length Cms, .string str] 28)).alloc (.cells #[.int .i64 p0, .int .i64 p1, .int .i64 p2] 57)).alloc (.cells #[.int .i64 0, .slice none 0 0, .slice none 0 0, .int .i64 0, .int .i64 0, .int .i64 0, .int .i64 0, .slice none 0 0, .string ⟨#[]⟩] 28)).frozen? ⟨w.heap.size + 1 + 1, 2, none⟩ = false := by go_simp
  have c_r_3 : (((w.alloc (.cells #[.int .i64 k0, .slice Pps ps.length Cps, .slice Pts ts.length Cts, .int .i64 b, .int .i64 d, .int .i64 n, .int .i64 e0, .slice Pms ms.length Cms, .string str] 28)).alloc (.cells #[.int .i64 p0, .int .i64 p1, .int .i64 p2] 57)).alloc (.cells #[.int .i64 0, .slice none 0 0, .slice none 0 0, .int .i64 0, .int .i64 0, .int .i64 0, .int .i64 0, .slice none 0 0, .string ⟨#[]⟩] 28)).cell? ⟨w.heap.size + 1 + 1, 3, none⟩ = some (.int .i64 0) := by go_simp
  have f_r_3 : (((w.alloc (.cells #[.int .i64 k0, .slice Pps ps.length Cps, .slice Pts ts.length Cts, .int .i64 b, .int .i64 d, .int .i64 n, .int .i64 e0, .slice Pms ms.length Cms, .string str] 28)).alloc (.cells #[.int .i64 p0, .int .i64 p1, .int .i64 p2] 57)).alloc (.cells #[.int .i64 0, .slice none 0 0, .slice none 0 0, .int .i64 0, .int .i64 0, .int .i64 0, .int .i64 0, .slice none 0 0, .string ⟨#[]⟩] 28)).frozen? ⟨w.heap.size + 1 + 1, 3, none⟩ = false := by go_simp
  have c_r_4 : (((w.alloc (.cells #[.int .i64 k0, .slice Pps ps.length Cps, .slice Pts ts.length Cts, .int .i64 b, .int .i64 d, .int .i64 n, .int .i64 e0, .slice Pms ms.length Cms, .string str] 28)).alloc (.cells #[.int .i64 p0, .int .i64 p1, .int .i64 p2] 57)).alloc (.cells #[.int .i64 0, .slice none 0 0, .slice none 0 0, .int .i64 0, .int .i64 0, .int .i64 0, .int .i64 0, .slice none 0 0, .string ⟨#[]⟩] 28)).cell? ⟨w.heap.size + 1 + 1, 4, none⟩ = some (.int .i64 0) := by go_simp
  have f_r_4 : (((w.alloc (.cells #[.int .i64 k0, .slice Pps ps.length Cps, .slice Pts ts.length Cts, .int .i64 b, .int .i64 d, .int .i64 n, .int .i64 e0, .slice Pms ms.length Cms, .string str] 28)).alloc (.cells #[.int .i64 p0, .int .i64 p1, .int .i64 p2] 57)).alloc (.cells #[.int .i64 0, .slice none 0 0, .slice none 0 0, .int .i64 0, .int .i64 0, .int .i64 0, .int .i64 0, .slice none 0 0, .string ⟨#[]⟩] 28)).frozen? ⟨w.heap.size + 1 + 1, 4, none⟩ = false := by go_simp
  have c_r_5 : (((w.alloc (.cells #[.int .i64 k0, .slice Pps ps.length Cps, .slice Pts ts.length Cts, .int .i64 b, .int .i64 d, .int .i64 n, .int .i64 e0, .slice Pms ms.length Cms, .string str] 28)).alloc (.cells #[.int .i64 p0, .int .i64 p1, .int .i64 p2] 57)).alloc (.cells #[.int .i64 0, .slice none 0 0, .slice none 0 0, .int .i64 0, .int .i64 0, .int .i64 0, .int .i64 0, .slice none 0 0, .string ⟨#[]⟩] 28)).cell? ⟨w.heap.size + 1 + 1, 5, none⟩ = some (.int .i64 0) := by go_simp
  have f_r_5 : (((w.alloc (.cells #[.int .i64 k0, .slice Pps ps.length Cps, .slice Pts ts.length Cts, .int .i64 b, .int .i64 d, .int .i64 n, .int .i64 e0, .slice Pms ms.length Cms, .string str] 28)).alloc (.cells #[.int .i64 p0, .int .i64 p1, .int .i64 p2] 57)).alloc (.cells #[.int .i64 0, .slice none 0 0, .slice none 0 0, .int .i64 0, .int .i64 0, .int .i64 0, .int .i64 0, .slice none 0 0, .string ⟨#[]⟩] 28)).frozen? ⟨w.heap.size + 1 + 1, 5, none⟩ = false := by go_simp
  have c_r_6 : (((w.alloc (.cells #[.int .i64 k0, .slice Pps ps.length Cps, .slice Pts ts.length Cts, .int .i64 b, .int .i64 d, .int .i64 n, .int .i64 e0, .slice Pms ms.length Cms, .string str] 28)).alloc (.cells #[.int .i64 p0, .int .i64 p1, .int .i64 p2] 57)).alloc (.cells #[.int .i64 0, .slice none 0 0, .slice none 0 0, .int .i64 0, .int .i64 0, .int .i64 0, .int .i64 0, .slice none 0 0, .string ⟨#[]⟩] 28)).cell? ⟨w.heap.size + 1 + 1, 6, none⟩ = some (.int .i64 0) := by go_simp
  have f_r_6 : (((w.alloc (.cells #[.int .i64 k0, .slice Pps ps.length Cps, .slice Pts ts.length Cts, .int .i64 b, .int .i64 d, .int .i64 n, .int .i64 e0, .slice Pms ms.length Cms, .string str] 28)).alloc (.cells #[.int .i64 p0, .int .i64 p1, .int .i64 p2] 57)).alloc (.cells #[.int .i64 0, .slice none 0 0, .slice none 0 0, .int .i64 0, .int .i64 0, .int .i64 0, .int .i64 0, .slice none 0 0, .string ⟨#[]⟩] 28)).frozen? ⟨w.heap.size + 1 + 1, 6, none⟩ = false := by go_simp
  have c_r_7 : (((w.alloc (.cells #[.int .i64 k0, .slice Pps ps.length Cps, .slice Pts ts.length Cts, .int .i64 b, .int .i64 d, .int .i64 n, .int .i64 e0, .slice Pms ms.length Cms, .string str] 28)).alloc (.cells #[.int .i64 p0, .int .i64 p1, .int .i64 p2] 57)).alloc (.cells #[.int .i64 0, .slice none 0 0, .slice none 0 0, .int .i64 0, .int .i64 0, .int .i64 0, .int .i64 0, .slice none 0 0, .string ⟨#[]⟩] 28)).cell? ⟨w.heap.size + 1 + 1, 7, none⟩ = some (.slice none 0 0) := by go_simp
  have f_r_7 : (((w.alloc (.cells #[.int .i64 k0, .slice Pps ps.length Cps, .slice Pts ts.length Cts, .int .i64 b, .int .i64 d, .int .i64 n, .int .i64 e0, .slice Pms ms.length Cms, .string str] 28)).alloc (.cells #[.int .i64 p0, .int .i64 p1, .int .i64 p2] 57)).alloc (.cells #[.int .i64 0, .slice none 0 0, .slice none 0 0, .int .i64 0, .int .i64 0, .int .i64 0, .int .i64 0, .slice none 0 0, .string ⟨#[]⟩] 28)).frozen? ⟨w.heap.size + 1 + 1, 7, none⟩ = false := by go_simp
  have c_r_8 : (((w.alloc (.cells #[.int .i64 k0, .slice Pps ps.length Cps, .slice Pts ts.length Cts, .int .i64 b, .int .i64 d, .int .i64 n, .int .i64 e0, .slice Pms ms.length Cms, .string str] 28)).alloc (.cells #[.int .i64 p0, .int .i64 p1, .int .i64 p2] 57)).alloc (.cells #[.int .i64 0, .slice none 0 0, .slice none 0 0, .int .i64 0, .int .i64 0, .int .i64 0, .int .i64 0, .slice none 0 0, .string ⟨#[]⟩] 28)).cell? ⟨w.heap.size + 1 + 1, 8, none⟩ = some (.string ⟨#[]⟩) := by go_simp
  have f_r_8 : (((w.alloc (.cells #[.int .i64 k0, .slice Pps ps.length Cps, .slice Pts ts.length Cts, .int .i64 b, .int .i64 d, .int .i64 n, .int .i64 e0, .slice Pms ms.length Cms, .string str] 28)).alloc (.cells #[.int .i64 p0, .int .i64 p1, .int .i64 p2] 57)).alloc (.cells #[.int .i64 0, .slice none 0 0, .slice none 0 0, .int .i64 0, .int .i64 0, .int .i64 0, .int .i64 0, .slice none 0 0, .string ⟨#[]⟩] 28)).frozen? ⟨w.heap.size + 1 + 1, 8, none⟩ = false := by go_simp
  have hB1 := below_two hB0 hs1
  clear hB0 hs1
  generalize (((w.alloc (.cells #[.int .i64 k0, .slice Pps ps.length Cps, .slice Pts ts.length Cts, .int .i64 b, .int .i64 d, .int .i64 n, .int .i64 e0, .slice Pms ms.length Cms, .string str] 28)).alloc (.cells #[.int .i64 p0, .int .i64 p1, .int .i64 p2] 57)).alloc (.cells #[.int .i64 0, .slice none 0 0, .slice none 0 0, .int .i64 0, .int .i64 0, .int .i64 0, .int .i64 0, .slice none 0 0, .string ⟨#[]⟩] 28)) = w1 at *
  have z_e : w.heap.size < _ := World.block_lt_of_cell? _ _ c_e_0
  have z_p : w.heap.size + 1 < _ := World.block_lt_of_cell? _ _ c_p_0
  have z_r : w.heap.size + 1 + 1 < _ := World.block_lt_of_cell? _ _ c_r_0
  obtain ⟨iP, hiP, hP0, hP1, hP2⟩ := info_parts infoP
  obtain ⟨iB, hiB, hB0_, hB1_, hB2_⟩ := info_parts infoB
  have hgP := guardP
  have heP := eql_pt
  go_loopw [7, 8, 9] (fun v u i wr => PutAt ps ts (p0, p1, p2) w1 v u i wr) (fun _ _ i _ => ps.length - (intOf i).toNat)
  case atStart => exact ⟨0, Nat.zero_le _, rfl, fun j q hj _ => absurd hj (Nat.not_lt_zero _), Two.nil _ _, Below.refl _ _⟩
  case round =>
    obtain ⟨k, hk, rfl, hb, hT, hBc⟩ := hrel
    have HT := Lib.hid hT
    have HB := Lib.hid hb
    clear hT hb
    have hsz := hBc.size
    by_cases hlt : k < ps.length
    · obtain ⟨x, hx⟩ : ∃ x, ps[k]? = some x := ⟨_, List.getElem?_eq_getElem hlt⟩
      obtain ⟨tk, ht⟩ : ∃ y, ts[k]? = some y := ⟨_, List.getElem?_eq_getElem (by have := hl.out; (try dsimp only at this); omega)⟩
      obtain ⟨bx, ox, ex, hx0, hx1, hx2⟩ := pits_at (HX0.out.later hB1).ps hx
      cases ex
      obtain ⟨bt, ot, et, ht0⟩ := bools_at (HX0.out.later hB1).ts ht
      cases et
      have HX := Lib.hid hx
      have HTK := Lib.hid ht
      clear hx ht
      obtain ⟨x0, x1, x2⟩ := x
      try dsimp only at hx0 hx1 hx2
      have hltT : k < ts.length := by have := hl.out; (try dsimp only at this); omega
      have hltI : ((k : Nat) : Int) < (ps.length : Int) := by omega
      have hltTI : ((k : Nat) : Int) < (ts.length : Int) := by omega
      have k_c_e_1 := cell_later hBc c_e_1
      have k_c_e_2 := cell_later hBc c_e_2
      have k_hx0 := cell_later hBc hx0
      have k_hx1 := cell_later hBc hx1
      have k_hx2 := cell_later hBc hx2
      have k_ht0 := cell_later hBc ht0
      have k_c_p_0 := cell_later hBc c_p_0
      have k_c_p_1 := cell_later hBc c_p_1
      have k_c_p_2 := cell_later hBc c_p_2
      have d3 : decide ((k : Int) < (ps.length : Int)) = true := decide_eq_true (by omega)
      have d3n : decide (k < ps.length) = true := decide_eq_true (by omega)
      obtain ⟨cv, HV⟩ : ∃ cv, Hid (Evt.cp (x0, x1, x2) (p0, p1, p2) = cv) := ⟨_, Lib.hid rfl⟩
      have HRX : Hid (Evt.rgt (x0, x1, x2) = true) := Lib.hid (List.all_eq_true.1 hr.out _ (List.mem_of_getElem? HX.out))
      by_cases hcv : cv < 0
      · have d4 : decide (cv < 0) = true := decide_eq_true hcv
        have HKY : Hid (Evt.ky (x0, x1, x2) < Evt.ky (p0, p1, p2)) := Lib.hid ((Evt.cp_lt HRX.out hp.out).1 (by rw [HV.out]; exact hcv))
        clear hcv
        go_wp2_with fail
        have g_k_c_e_1 := fun dd os => cell_regrown k_c_e_1 dd os
        have g_k_c_e_2 := fun dd os => cell_regrown k_c_e_2 dd os
        have g_k_hx0 := fun dd os => cell_regrown k_hx0 dd os
        have g_k_hx1 := fun dd os => cell_regrown k_hx1 dd os
        have g_k_hx2 := fun dd os => cell_regrown k_hx2 dd os
        have g_k_ht0 := fun dd os => cell_regrown k_ht0 dd os
        have g_k_c_p_0 := fun dd os => cell_regrown k_c_p_0 dd os
        have g_k_c_p_1 := fun dd os => cell_regrown k_c_p_1 dd os
        have g_k_c_p_2 := fun dd os => cell_regrown k_c_p_2 dd os
        have q0 : Hid (∀ dd os, Calls Tryd.prog 84 #[pt x0 x1 x2, pt p0 p1 p2] (Go.Sort.grow (redrawn wr dd) os) fun e w'' => e = .returned (.int .i64 cv) ∧ ∃ p : Regrown, w'' = Go.Sort.grow (redrawn wr p.d) p.os) := Lib.hid (fun dd os => Calls.regrown_of (cref_is (p := (x0, x1, x2)) (q := (p0, p1, p2)) HV.out (Go.Sort.grow (redrawn wr dd) os)))
        refine wp_region_quiet_below (by kernel_rfl) (by kernel_rfl) ?_
        repeat (go_big_quiet_step (first | (go_at_call 84; with_reducible exact q0.out _ _)))
        refine wpQuiet_nil ?_
        intro _ hw'
        obtain ⟨⟨dq, osq⟩, hw''⟩ := hw'
        subst hw''
        replace k_c_e_1 := g_k_c_e_1 dq osq
        clear g_k_c_e_1
        replace k_c_e_2 := g_k_c_e_2 dq osq
        clear g_k_c_e_2
        replace k_hx0 := g_k_hx0 dq osq
        clear g_k_hx0
        replace k_hx1 := g_k_hx1 dq osq
        clear g_k_hx1
        replace k_hx2 := g_k_hx2 dq osq
        clear g_k_hx2
        replace k_ht0 := g_k_ht0 dq osq
        clear g_k_ht0
        replace k_c_p_0 := g_k_c_p_0 dq osq
        clear g_k_c_p_0
        replace k_c_p_1 := g_k_c_p_1 dq osq
        clear g_k_c_p_1
        replace k_c_p_2 := g_k_c_p_2 dq osq
        clear g_k_c_p_2
        clear q0
        have hb_w9 := below_regrown wr dq osq
        generalize Go.Sort.grow (redrawn wr dq) osq = w9 at *
        replace HT := Lib.hid (HT.out.later hb_w9)
        replace hBc := below_two hBc hb_w9
        replace hsz := hBc.size
        clear hb_w9
        go_wp2_with (first
          | (at_builtin; refine wpList_append_own_at _ rfl _ _ 22 rfl w1.heap.size 57 iP (.agg #[.int .i64 0, .int .i64 0, .int .i64 0]) 3 24 Tryd.underlying22 hiP hP0 hP1 hP2 rfl (by decide) _ _ _ rfl (HT.out.P.alloc _) ⟨w9.heap.size, 0, none⟩ 1 1 [.int .i64 x0, .int .i64 x1, .int .i64 x2] rfl rfl (cells3_new _ _ _ _ _ rfl) (one3 _ _ _) (by unfold maxLen; omega) (by omega) (by simp; omega) ?_; intro v' wp hown hgrow _ hob; have hBn := push_below HT.out.P hBc hsz hgrow; have HT := Lib.hid (HT.out.pushP hown hgrow hob); clear hown hgrow hob hBc; have hBc := hBn; clear hBn; replace hsz := hBc.size; clear k_c_e_1 k_c_e_2 k_hx0 k_hx1 k_hx2 k_ht0 k_c_p_0 k_c_p_1 k_c_p_2; have k_c_e_1 := cell_later hBc c_e_1; have k_c_e_2 := cell_later hBc c_e_2; have k_hx0 := cell_later hBc hx0; have k_hx1 := cell_later hBc hx1; have k_hx2 := cell_later hBc hx2; have k_ht0 := cell_later hBc ht0; have k_c_p_0 := cell_later hBc c_p_0; have k_c_p_1 := cell_later hBc c_p_1; have k_c_p_2 := cell_later hBc c_p_2)
          | (at_builtin; refine wpList_append_own_at _ rfl _ _ 23 rfl w1.heap.size 4 iB (.bool false) 1 1 Tryd.underlying23 hiB hB0_ hB1_ hB2_ rfl (by decide) _ _ _ rfl (HT.out.T.alloc _) ⟨wp.heap.size, 0, none⟩ 1 1 [.bool tk] rfl rfl (cells1_new _ _ _ rfl) (one1 _) (by unfold maxLen; omega) (by omega) (by simp; omega) ?_; intro u' wt hown hgrow _ hob; have hBn := push_below HT.out.T hBc hsz hgrow; have HT := Lib.hid (HT.out.pushT hown hgrow hob); clear hown hgrow hob hBc; have hBc := hBn; clear hBn; replace hsz := hBc.size; clear k_c_e_1 k_c_e_2 k_hx0 k_hx1 k_hx2 k_ht0 k_c_p_0 k_c_p_1 k_c_p_2; have k_c_e_1 := cell_later hBc c_e_1; have k_c_e_2 := cell_later hBc c_e_2; have k_hx0 := cell_later hBc hx0; have k_hx1 := cell_later hBc hx1; have k_hx2 := cell_later hBc hx2; have k_ht0 := cell_later hBc ht0; have k_c_p_0 := cell_later hBc c_p_0; have k_c_p_1 := cell_later hBc c_p_1; have k_c_p_2 := cell_later hBc c_p_2)
          | fail)
        go_wp2
        go_roundw
        case rel => exact ⟨k + 1, by omega, by go_num, below_succ HB.out HX.out HKY.out, by rw [take_succ_at HX.out, take_succ_at HTK.out]; exact HT.out, hBc⟩
        case measure => simp [intOf]; omega
      · have d4 : decide (cv < 0) = false := decide_eq_false hcv
        have HKY : Hid (¬ Evt.ky (x0, x1, x2) < Evt.ky (p0, p1, p2)) := Lib.hid (fun e => hcv (by have := (Evt.cp_lt HRX.out hp.out).2 e; rw [HV.out] at this; exact this))
        clear hcv
        have HPI := Lib.hid (fun t => Evt.putE_in (x := ⟨k0, ps, ts, b, d, n, e0, ms, str⟩) (p := (p0, p1, p2)) (t := t) hl.out HB.out HX.out HTK.out HKY.out)
        cases hE : eqP x0 x1 x2 p0 p1 p2
        · have hne : (x0, x1, x2) ≠ (p0, p1, p2) := by intro e; cases e; rw [eqP_self] at hE; cases hE
          have HQ := Lib.hid ((HPI.out t).2 hne)
          clear hne
          go_wp2_with fail
          have g_k_c_e_1 := fun dd os => cell_regrown k_c_e_1 dd os
          have g_k_c_e_2 := fun dd os => cell_regrown k_c_e_2 dd os
          have g_k_hx0 := fun dd os => cell_regrown k_hx0 dd os
          have g_k_hx1 := fun dd os => cell_regrown k_hx1 dd os
          have g_k_hx2 := fun dd os => cell_regrown k_hx2 dd os
          have g_k_ht0 := fun dd os => cell_regrown k_ht0 dd os
          have g_k_c_p_0 := fun dd os => cell_regrown k_c_p_0 dd os
          have g_k_c_p_1 := fun dd os => cell_regrown k_c_p_1 dd os
          have g_k_c_p_2 := fun dd os => cell_regrown k_c_p_2 dd os
          have q0 : Hid (∀ dd os, Calls Tryd.prog 84 #[pt x0 x1 x2, pt p0 p1 p2] (Go.Sort.grow (redrawn wr dd) os) fun e w'' => e = .returned (.int .i64 cv) ∧ ∃ p : Regrown, w'' = Go.Sort.grow (redrawn wr p.d) p.os) := Lib.hid (fun dd os => Calls.regrown_of (cref_is (p := (x0, x1, x2)) (q := (p0, p1, p2)) HV.out (Go.Sort.grow (redrawn wr dd) os)))
          refine wp_region_quiet_below (by kernel_rfl) (by kernel_rfl) ?_
          repeat (go_big_quiet_step (first | (go_at_call 84; with_reducible exact q0.out _ _)))
          refine wpQuiet_nil ?_
          intro _ hw'
          obtain ⟨⟨dq, osq⟩, hw''⟩ := hw'
          subst hw''
          replace k_c_e_1 := g_k_c_e_1 dq osq
          clear g_k_c_e_1
          replace k_c_e_2 := g_k_c_e_2 dq osq
          clear g_k_c_e_2
          replace k_hx0 := g_k_hx0 dq osq
          clear g_k_hx0
          replace k_hx1 := g_k_hx1 dq osq
          clear g_k_hx1
          replace k_hx2 := g_k_hx2 dq osq
          clear g_k_hx2
          replace k_ht0 := g_k_ht0 dq osq
          clear g_k_ht0
          replace k_c_p_0 := g_k_c_p_0 dq osq
          clear g_k_c_p_0
          replace k_c_p_1 := g_k_c_p_1 dq osq
          clear g_k_c_p_1
          replace k_c_p_2 := g_k_c_p_2 dq osq
          clear g_k_c_p_2
          clear q0
          have hb_w9 := below_regrown wr dq osq
          generalize Go.Sort.grow (redrawn wr dq) osq = w9 at *
          replace HT := Lib.hid (HT.out.later hb_w9)
          replace hBc := below_two hBc hb_w9
          replace hsz := hBc.size
          clear hb_w9
          go_wp2_with fail
          have g_k_c_e_1 := fun dd os => cell_regrown k_c_e_1 dd os
          have g_k_c_e_2 := fun dd os => cell_regrown k_c_e_2 dd os
          have g_k_hx0 := fun dd os => cell_regrown k_hx0 dd os
          have g_k_hx1 := fun dd os => cell_regrown k_hx1 dd os
          have g_k_hx2 := fun dd os => cell_regrown k_hx2 dd os
          have g_k_ht0 := fun dd os => cell_regrown k_ht0 dd os
          have g_k_c_p_0 := fun dd os => cell_regrown k_c_p_0 dd os
          have g_k_c_p_1 := fun dd os => cell_regrown k_c_p_1 dd os
          have g_k_c_p_2 := fun dd os => cell_regrown k_c_p_2 dd os
          refine wp_region_quiet_below (by kernel_rfl) (by kernel_rfl) ?_
          repeat (go_big_quiet_step (first | fail))
          refine wpQuiet_nil ?_
          intro _ hw'
          obtain ⟨⟨dq, osq⟩, hw''⟩ := hw'
          subst hw''
          replace k_c_e_1 := g_k_c_e_1 dq osq
          clear g_k_c_e_1
          replace k_c_e_2 := g_k_c_e_2 dq osq
          clear g_k_c_e_2
          replace k_hx0 := g_k_hx0 dq osq
          clear g_k_hx0
          replace k_hx1 := g_k_hx1 dq osq
          clear g_k_hx1
          replace k_hx2 := g_k_hx2 dq osq
          clear g_k_hx2
          replace k_ht0 := g_k_ht0 dq osq
          clear g_k_ht0
          replace k_c_p_0 := g_k_c_p_0 dq osq
          clear g_k_c_p_0
          replace k_c_p_1 := g_k_c_p_1 dq osq
          clear g_k_c_p_1
          replace k_c_p_2 := g_k_c_p_2 dq osq
          clear g_k_c_p_2
          have hb_w8 := below_regrown w9 dq osq
          generalize Go.Sort.grow (redrawn w9 dq) osq = w8 at *
          replace HT := Lib.hid (HT.out.later hb_w8)
          replace hBc := below_two hBc hb_w8
          replace hsz := hBc.size
          clear hb_w8
          go_wp2_with (first
            | (at_builtin; refine wpList_append_own_at _ rfl _ _ 22 rfl w1.heap.size 57 iP (.agg #[.int .i64 0, .int .i64 0, .int .i64 0]) 3 24 Tryd.underlying22 hiP hP0 hP1 hP2 rfl (by decide) _ _ _ rfl (HT.out.P.alloc _) ⟨w8.heap.size, 0, none⟩ 1 1 [.int .i64 p0, .int .i64 p1, .int .i64 p2] rfl rfl (cells3_new _ _ _ _ _ rfl) (one3 _ _ _) (by unfold maxLen; omega) (by omega) (by simp; omega) ?_; intro v' wp hown hgrow _ hob; have hBn := push_below HT.out.P hBc hsz hgrow; have HT := Lib.hid (HT.out.pushP hown hgrow hob); clear hown hgrow hob hBc; have hBc := hBn; clear hBn; replace hsz := hBc.size; clear k_c_e_1 k_c_e_2 k_hx0 k_hx1 k_hx2 k_ht0 k_c_p_0 k_c_p_1 k_c_p_2; have k_c_e_1 := cell_later hBc c_e_1; have k_c_e_2 := cell_later hBc c_e_2; have k_hx0 := cell_later hBc hx0; have k_hx1 := cell_later hBc hx1; have k_hx2 := cell_later hBc hx2; have k_ht0 := cell_later hBc ht0; have k_c_p_0 := cell_later hBc c_p_0; have k_c_p_1 := cell_later hBc c_p_1; have k_c_p_2 := cell_later hBc c_p_2)
            | (at_builtin; refine wpList_append_own_at _ rfl _ _ 23 rfl w1.heap.size 4 iB (.bool false) 1 1 Tryd.underlying23 hiB hB0_ hB1_ hB2_ rfl (by decide) _ _ _ rfl (HT.out.T.alloc _) ⟨wp.heap.size, 0, none⟩ 1 1 [.bool t] rfl rfl (cells1_new _ _ _ rfl) (one1 _) (by unfold maxLen; omega) (by omega) (by simp; omega) ?_; intro u' wt hown hgrow _ hob; have hBn := push_below HT.out.T hBc hsz hgrow; have HT := Lib.hid (HT.out.pushT hown hgrow hob); clear hown hgrow hob hBc; have hBc := hBn; clear hBn; replace hsz := hBc.size; clear k_c_e_1 k_c_e_2 k_hx0 k_hx1 k_hx2 k_ht0 k_c_p_0 k_c_p_1 k_c_p_2; have k_c_e_1 := cell_later hBc c_e_1; have k_c_e_2 := cell_later hBc c_e_2; have k_hx0 := cell_later hBc hx0; have k_hx1 := cell_later hBc hx1; have k_hx2 := cell_later hBc hx2; have k_ht0 := cell_later hBc ht0; have k_c_p_0 := cell_later hBc c_p_0; have k_c_p_1 := cell_later hBc c_p_1; have k_c_p_2 := cell_later hBc c_p_2)
            | fail)
          clear k_c_e_1 k_c_e_2 k_hx0 k_hx1 k_hx2 k_ht0 k_c_p_0 k_c_p_1 k_c_p_2 hx0 hx1 hx2 ht0
          go_loopw [7, 8, 9] (fun v u i wr => PutBt ps ts (ps.take k ++ [(p0, p1, p2)]) (ts.take k ++ [t]) (k + 1) (k) w1 v u i wr) (fun _ _ i _ => ps.length - (intOf i).toNat)
          case atStart => exact ⟨0, by omega, by go_num, by simpa using HT.out, hBc⟩
          case round =>
            clear HT hBc hsz
            obtain ⟨j, hj, rfl, hT, hBc⟩ := hrel
            have HT := Lib.hid hT
            clear hT
            have hsz := hBc.size
            by_cases hlt : k + j < ps.length
            · obtain ⟨x, hx⟩ : ∃ x, ps[k + j]? = some x := ⟨_, List.getElem?_eq_getElem hlt⟩
              obtain ⟨tk, ht⟩ : ∃ y, ts[k + j]? = some y := ⟨_, List.getElem?_eq_getElem (by have := hl.out; (try dsimp only at this); omega)⟩
              obtain ⟨bx, ox, ex, hx0, hx1, hx2⟩ := pits_at (HX0.out.later hB1).ps hx
              cases ex
              obtain ⟨bt, ot, et, ht0⟩ := bools_at (HX0.out.later hB1).ts ht
              cases et
              have HX := Lib.hid hx
              have HTK := Lib.hid ht
              clear hx ht
              obtain ⟨x0, x1, x2⟩ := x
              try dsimp only at hx0 hx1 hx2
              have hltT : k + j < ts.length := by have := hl.out; (try dsimp only at this); omega
              have hltI : ((k + j : Nat) : Int) < (ps.length : Int) := by omega
              have hltTI : ((k + j : Nat) : Int) < (ts.length : Int) := by omega
              have k_c_e_1 := cell_later hBc c_e_1
              have k_c_e_2 := cell_later hBc c_e_2
              have k_hx0 := cell_later hBc hx0
              have k_hx1 := cell_later hBc hx1
              have k_hx2 := cell_later hBc hx2
              have k_ht0 := cell_later hBc ht0
              have k_c_p_0 := cell_later hBc c_p_0
              have k_c_p_1 := cell_later hBc c_p_1
              have k_c_p_2 := cell_later hBc c_p_2
              go_wp2_with (first
                | (at_builtin; refine wpList_append_own_at _ rfl _ _ 22 rfl w1.heap.size 57 iP (.agg #[.int .i64 0, .int .i64 0, .int .i64 0]) 3 24 Tryd.underlying22 hiP hP0 hP1 hP2 rfl (by decide) _ _ _ rfl (HT.out.P.alloc _) ⟨wr.heap.size, 0, none⟩ 1 1 [.int .i64 x0, .int .i64 x1, .int .i64 x2] rfl rfl (cells3_new _ _ _ _ _ rfl) (one3 _ _ _) (by unfold maxLen; omega) (by omega) (by simp; omega) ?_; intro v' wp hown hgrow _ hob; have hBn := push_below HT.out.P hBc hsz hgrow; have HT := Lib.hid (HT.out.pushP hown hgrow hob); clear hown hgrow hob hBc; have hBc := hBn; clear hBn; replace hsz := hBc.size; clear k_c_e_1 k_c_e_2 k_hx0 k_hx1 k_hx2 k_ht0 k_c_p_0 k_c_p_1 k_c_p_2; have k_c_e_1 := cell_later hBc c_e_1; have k_c_e_2 := cell_later hBc c_e_2; have k_hx0 := cell_later hBc hx0; have k_hx1 := cell_later hBc hx1; have k_hx2 := cell_later hBc hx2; have k_ht0 := cell_later hBc ht0; have k_c_p_0 := cell_later hBc c_p_0; have k_c_p_1 := cell_later hBc c_p_1; have k_c_p_2 := cell_later hBc c_p_2)
                | (at_builtin; refine wpList_append_own_at _ rfl _ _ 23 rfl w1.heap.size 4 iB (.bool false) 1 1 Tryd.underlying23 hiB hB0_ hB1_ hB2_ rfl (by decide) _ _ _ rfl (HT.out.T.alloc _) ⟨wp.heap.size, 0, none⟩ 1 1 [.bool tk] rfl rfl (cells1_new _ _ _ rfl) (one1 _) (by unfold maxLen; omega) (by omega) (by simp; omega) ?_; intro u' wt hown hgrow _ hob; have hBn := push_below HT.out.T hBc hsz hgrow; have HT := Lib.hid (HT.out.pushT hown hgrow hob); clear hown hgrow hob hBc; have hBc := hBn; clear hBn; replace hsz := hBc.size; clear k_c_e_1 k_c_e_2 k_hx0 k_hx1 k_hx2 k_ht0 k_c_p_0 k_c_p_1 k_c_p_2; have k_c_e_1 := cell_later hBc c_e_1; have k_c_e_2 := cell_later hBc c_e_2; have k_hx0 := cell_later hBc hx0; have k_hx1 := cell_later hBc hx1; have k_hx2 := cell_later hBc hx2; have k_ht0 := cell_later hBc ht0; have k_c_p_0 := cell_later hBc c_p_0; have k_c_p_1 := cell_later hBc c_p_1; have k_c_p_2 := cell_later hBc c_p_2)
                | fail)
              go_wp2
              go_roundw
              case rel => exact ⟨j + 1, by omega, by go_num, by rw [drop_take_succ HX.out, drop_take_succ HTK.out, ← List.append_assoc, ← List.append_assoc]; exact HT.out, hBc⟩
              case measure => simp [intOf]; omega
            · have hend : k + j = ps.length := by omega
              obtain ⟨M, hM⟩ : ∃ M, Hid (k + 1 + j = M) := ⟨_, Lib.hid rfl⟩
              have hT2 := HT.out
              rw [hM.out] at hT2
              clear HT
              have HT := Lib.hid hT2
              clear hT2
              obtain ⟨pv, cV, rfl⟩ := own_shape2 HT.out.P
              obtain ⟨pu, cU, rfl⟩ := own_shape2 HT.out.T
              have k_c_e_0 := cell_later hBc c_e_0
              have k_f_e_0 := frozen_later hBc c_e_0 f_e_0
              have k_c_r_0 := cell_later hBc c_r_0
              have k_f_r_0 := frozen_later hBc c_r_0 f_r_0
              have k_c_e_1 := cell_later hBc c_e_1
              have k_f_e_1 := frozen_later hBc c_e_1 f_e_1
              have k_c_r_1 := cell_later hBc c_r_1
              have k_f_r_1 := frozen_later hBc c_r_1 f_r_1
              have k_c_e_2 := cell_later hBc c_e_2
              have k_f_e_2 := frozen_later hBc c_e_2 f_e_2
              have k_c_r_2 := cell_later hBc c_r_2
              have k_f_r_2 := frozen_later hBc c_r_2 f_r_2
              have k_c_e_3 := cell_later hBc c_e_3
              have k_f_e_3 := frozen_later hBc c_e_3 f_e_3
              have k_c_r_3 := cell_later hBc c_r_3
              have k_f_r_3 := frozen_later hBc c_r_3 f_r_3
              have k_c_e_4 := cell_later hBc c_e_4
              have k_f_e_4 := frozen_later hBc c_e_4 f_e_4
              have k_c_r_4 := cell_later hBc c_r_4
              have k_f_r_4 := frozen_later hBc c_r_4 f_r_4
              have k_c_e_5 := cell_later hBc c_e_5
              have k_f_e_5 := frozen_later hBc c_e_5 f_e_5
              have k_c_r_5 := cell_later hBc c_r_5
              have k_f_r_5 := frozen_later hBc c_r_5 f_r_5
              have k_c_e_6 := cell_later hBc c_e_6
              have k_f_e_6 := frozen_later hBc c_e_6 f_e_6
              have k_c_r_6 := cell_later hBc c_r_6
              have k_f_r_6 := frozen_later hBc c_r_6 f_r_6
              have k_c_e_7 := cell_later hBc c_e_7
              have k_f_e_7 := frozen_later hBc c_e_7 f_e_7
              have k_c_r_7 := cell_later hBc c_r_7
              have k_f_r_7 := frozen_later hBc c_r_7 f_r_7
              have k_c_e_8 := cell_later hBc c_e_8
              have k_f_e_8 := frozen_later hBc c_e_8 f_e_8
              have k_c_r_8 := cell_later hBc c_r_8
              have k_f_r_8 := frozen_later hBc c_r_8 f_r_8
              go_upto_region 19 with fail
              have n_e_0 : ((wr.setCell ⟨w.heap.size, 1, none⟩ (.slice pv M cV)).setCell ⟨w.heap.size, 2, none⟩ (.slice pu M cU)).cell? ⟨w.heap.size, 0, none⟩ = some (.int .i64 k0) := set_beside (by decide) (set_beside (by decide) k_c_e_0)
              have n_r_0 : ((wr.setCell ⟨w.heap.size, 1, none⟩ (.slice pv M cV)).setCell ⟨w.heap.size, 2, none⟩ (.slice pu M cU)).cell? ⟨w.heap.size + 1 + 1, 0, none⟩ = some (.int .i64 0) := set_far (by omega) (set_far (by omega) k_c_r_0)
              have nf_r_0 : ((wr.setCell ⟨w.heap.size, 1, none⟩ (.slice pv M cV)).setCell ⟨w.heap.size, 2, none⟩ (.slice pu M cU)).frozen? ⟨w.heap.size + 1 + 1, 0, none⟩ = false := set_frozen (set_frozen k_f_r_0)
              have n_e_1 : ((wr.setCell ⟨w.heap.size, 1, none⟩ (.slice pv M cV)).setCell ⟨w.heap.size, 2, none⟩ (.slice pu M cU)).cell? ⟨w.heap.size, 1, none⟩ = some (.slice pv M cV) := set_beside (by decide) (set_same (held_of k_c_e_1))
              have n_r_1 : ((wr.setCell ⟨w.heap.size, 1, none⟩ (.slice pv M cV)).setCell ⟨w.heap.size, 2, none⟩ (.slice pu M cU)).cell? ⟨w.heap.size + 1 + 1, 1, none⟩ = some (.slice none 0 0) := set_far (by omega) (set_far (by omega) k_c_r_1)
              have nf_r_1 : ((wr.setCell ⟨w.heap.size, 1, none⟩ (.slice pv M cV)).setCell ⟨w.heap.size, 2, none⟩ (.slice pu M cU)).frozen? ⟨w.heap.size + 1 + 1, 1, none⟩ = false := set_frozen (set_frozen k_f_r_1)
              have n_e_2 : ((wr.setCell ⟨w.heap.size, 1, none⟩ (.slice pv M cV)).setCell ⟨w.heap.size, 2, none⟩ (.slice pu M cU)).cell? ⟨w.heap.size, 2, none⟩ = some (.slice pu M cU) := set_same (set_held (held_of k_c_e_2))
              have n_r_2 : ((wr.setCell ⟨w.heap.size, 1, none⟩ (.slice pv M cV)).setCell ⟨w.heap.size, 2, none⟩ (.slice pu M cU)).cell? ⟨w.heap.size + 1 + 1, 2, none⟩ = some (.slice none 0 0) := set_far (by omega) (set_far (by omega) k_c_r_2)
              have nf_r_2 : ((wr.setCell ⟨w.heap.size, 1, none⟩ (.slice pv M cV)).setCell ⟨w.heap.size, 2, none⟩ (.slice pu M cU)).frozen? ⟨w.heap.size + 1 + 1, 2, none⟩ = false := set_frozen (set_frozen k_f_r_2)
              have n_e_3 : ((wr.setCell ⟨w.heap.size, 1, none⟩ (.slice pv M cV)).setCell ⟨w.heap.size, 2, none⟩ (.slice pu M cU)).cell? ⟨w.heap.size, 3, none⟩ = some (.int .i64 b) := set_beside (by decide) (set_beside (by decide) k_c_e_3)
              have n_r_3 : ((wr.setCell ⟨w.heap.size, 1, none⟩ (.slice pv M cV)).setCell ⟨w.heap.size, 2, none⟩ (.slice pu M cU)).cell? ⟨w.heap.size + 1 + 1, 3, none⟩ = some (.int .i64 0) := set_far (by omega) (set_far (by omega) k_c_r_3)
              have nf_r_3 : ((wr.setCell ⟨w.heap.size, 1, none⟩ (.slice pv M cV)).setCell ⟨w.heap.size, 2, none⟩ (.slice pu M cU)).frozen? ⟨w.heap.size + 1 + 1, 3, none⟩ = false := set_frozen (set_frozen k_f_r_3)
              have n_e_4 : ((wr.setCell ⟨w.heap.size, 1, none⟩ (.slice pv M cV)).setCell ⟨w.heap.size, 2, none⟩ (.slice pu M cU)).cell? ⟨w.heap.size, 4, none⟩ = some (.int .i64 d) := set_beside (by decide) (set_beside (by decide) k_c_e_4)
              have n_r_4 : ((wr.setCell ⟨w.heap.size, 1, none⟩ (.slice pv M cV)).setCell ⟨w.heap.size, 2, none⟩ (.slice pu M cU)).cell? ⟨w.heap.size + 1 + 1, 4, none⟩ = some (.int .i64 0) := set_far (by omega) (set_far (by omega) k_c_r_4)
              have nf_r_4 : ((wr.setCell ⟨w.heap.size, 1, none⟩ (.slice pv M cV)).setCell ⟨w.heap.size, 2, none⟩ (.slice pu M cU)).frozen? ⟨w.heap.size + 1 + 1, 4, none⟩ = false := set_frozen (set_frozen k_f_r_4)
              have n_e_5 : ((wr.setCell ⟨w.heap.size, 1, none⟩ (.slice pv M cV)).setCell ⟨w.heap.size, 2, none⟩ (.slice pu M cU)).cell? ⟨w.heap.size, 5, none⟩ = some (.int .i64 n) := set_beside (by decide) (set_beside (by decide) k_c_e_5)
              have n_r_5 : ((wr.setCell ⟨w.heap.size, 1, none⟩ (.slice pv M cV)).setCell ⟨w.heap.size, 2, none⟩ (.slice pu M cU)).cell? ⟨w.heap.size + 1 + 1, 5, none⟩ = some (.int .i64 0) := set_far (by omega) (set_far (by omega) k_c_r_5)
              have nf_r_5 : ((wr.setCell ⟨w.heap.size, 1, none⟩ (.slice pv M cV)).setCell ⟨w.heap.size, 2, none⟩ (.slice pu M cU)).frozen? ⟨w.heap.size + 1 + 1, 5, none⟩ = false := set_frozen (set_frozen k_f_r_5)
              have n_e_6 : ((wr.setCell ⟨w.heap.size, 1, none⟩ (.slice pv M cV)).setCell ⟨w.heap.size, 2, none⟩ (.slice pu M cU)).cell? ⟨w.heap.size, 6, none⟩ = some (.int .i64 e0) := set_beside (by decide) (set_beside (by decide) k_c_e_6)
              have n_r_6 : ((wr.setCell ⟨w.heap.size, 1, none⟩ (.slice pv M cV)).setCell ⟨w.heap.size, 2, none⟩ (.slice pu M cU)).cell? ⟨w.heap.size + 1 + 1, 6, none⟩ = some (.int .i64 0) := set_far (by omega) (set_far (by omega) k_c_r_6)
              have nf_r_6 : ((wr.setCell ⟨w.heap.size, 1, none⟩ (.slice pv M cV)).setCell ⟨w.heap.size, 2, none⟩ (.slice pu M cU)).frozen? ⟨w.heap.size + 1 + 1, 6, none⟩ = false := set_frozen (set_frozen k_f_r_6)
              have n_e_7 : ((wr.setCell ⟨w.heap.size, 1, none⟩ (.slice pv M cV)).setCell ⟨w.heap.size, 2, none⟩ (.slice pu M cU)).cell? ⟨w.heap.size, 7, none⟩ = some (.slice Pms ms.length Cms) := set_beside (by decide) (set_beside (by decide) k_c_e_7)
              have n_r_7 : ((wr.setCell ⟨w.heap.size, 1, none⟩ (.slice pv M cV)).setCell ⟨w.heap.size, 2, none⟩ (.slice pu M cU)).cell? ⟨w.heap.size + 1 + 1, 7, none⟩ = some (.slice none 0 0) := set_far (by omega) (set_far (by omega) k_c_r_7)
              have nf_r_7 : ((wr.setCell ⟨w.heap.size, 1, none⟩ (.slice pv M cV)).setCell ⟨w.heap.size, 2, none⟩ (.slice pu M cU)).frozen? ⟨w.heap.size + 1 + 1, 7, none⟩ = false := set_frozen (set_frozen k_f_r_7)
              have n_e_8 : ((wr.setCell ⟨w.heap.size, 1, none⟩ (.slice pv M cV)).setCell ⟨w.heap.size, 2, none⟩ (.slice pu M cU)).cell? ⟨w.heap.size, 8, none⟩ = some (.string str) := set_beside (by decide) (set_beside (by decide) k_c_e_8)
              have n_r_8 : ((wr.setCell ⟨w.heap.size, 1, none⟩ (.slice pv M cV)).setCell ⟨w.heap.size, 2, none⟩ (.slice pu M cU)).cell? ⟨w.heap.size + 1 + 1, 8, none⟩ = some (.string ⟨#[]⟩) := set_far (by omega) (set_far (by omega) k_c_r_8)
              have nf_r_8 : ((wr.setCell ⟨w.heap.size, 1, none⟩ (.slice pv M cV)).setCell ⟨w.heap.size, 2, none⟩ (.slice pu M cU)).frozen? ⟨w.heap.size + 1 + 1, 8, none⟩ = false := set_frozen (set_frozen k_f_r_8)
              have e1 : ps.take k ++ [(p0, p1, p2)] ++ (ps.drop (k)).take j = (Evt.putE (p0, p1, p2) t ⟨k0, ps, ts, b, d, n, e0, ms, str⟩).ps := by rw [show (ps.drop (k)).take j = ps.drop (k) from List.take_of_length_le (by rw [List.length_drop]; omega)]; exact (HQ.out).1
              have hlT : ts.length = ps.length := hl.out
              have e2 : ts.take k ++ [t] ++ (ts.drop (k)).take j = (Evt.putE (p0, p1, p2) t ⟨k0, ps, ts, b, d, n, e0, ms, str⟩).ts := by rw [show (ts.drop (k)).take j = ts.drop (k) from List.take_of_length_le (by rw [List.length_drop]; omega)]; exact (HQ.out).2
              have HN1 : (ps.take k ++ [(p0, p1, p2)] ++ (ps.drop (k)).take j).length = M := by rw [← hM.out]; rw [List.length_append, List.length_append, List.length_take, List.length_take, List.length_drop, List.length_singleton]; omega
              have HN2 : (ts.take k ++ [t] ++ (ts.drop (k)).take j).length = M := by rw [← hM.out]; rw [List.length_append, List.length_append, List.length_take, List.length_take, List.length_drop, List.length_singleton]; omega
              have HO1 := own_row HT.out.P
              have HO2 := own_row HT.out.T
              have S1 := ((row_sl lenP HN1.symm (by have := hM.out; omega) HT.out.P).set (o := 1) (x := .slice pv M cV) HO1 z_e).set (o := 2) (x := .slice pu M cU) HO1 z_e
              have S2 := ((row_sl lenB HN2.symm (by have := hM.out; omega) HT.out.T).set (o := 1) (x := .slice pv M cV) HO2 z_e).set (o := 2) (x := .slice pu M cU) HO2 z_e
              rw [e1] at S1
              rw [e2] at S2
              have HS1 := Lib.hid S1
              have HS2 := Lib.hid S2
              have HOA := Lib.hid HO1
              have HOB := Lib.hid HO2
              have hB9 : Below w.heap.size w ((wr.setCell ⟨w.heap.size, 1, none⟩ (.slice pv M cV)).setCell ⟨w.heap.size, 2, none⟩ (.slice pu M cU)) := set1_below (set1_below (below_two hB1 hBc) (Nat.le_refl _)) (Nat.le_refl _)
              clear e1 e2 HN1 HN2 HO1 HO2 S1 S2 k_c_e_0 k_f_e_0 k_c_r_0 k_f_r_0 c_e_0 f_e_0 c_r_0 f_r_0 k_c_e_1 k_f_e_1 k_c_r_1 k_f_r_1 c_e_1 f_e_1 c_r_1 f_r_1 k_c_e_2 k_f_e_2 k_c_r_2 k_f_r_2 c_e_2 f_e_2 c_r_2 f_r_2 k_c_e_3 k_f_e_3 k_c_r_3 k_f_r_3 c_e_3 f_e_3 c_r_3 f_r_3 k_c_e_4 k_f_e_4 k_c_r_4 k_f_r_4 c_e_4 f_e_4 c_r_4 f_r_4 k_c_e_5 k_f_e_5 k_c_r_5 k_f_r_5 c_e_5 f_e_5 c_r_5 f_r_5 k_c_e_6 k_f_e_6 k_c_r_6 k_f_r_6 c_e_6 f_e_6 c_r_6 f_r_6 k_c_e_7 k_f_e_7 k_c_r_7 k_f_r_7 c_e_7 f_e_7 c_r_7 f_r_7 k_c_e_8 k_f_e_8 k_c_r_8 k_f_r_8 c_e_8 f_e_8 c_r_8 f_r_8
              generalize ((wr.setCell ⟨w.heap.size, 1, none⟩ (.slice pv M cV)).setCell ⟨w.heap.size, 2, none⟩ (.slice pu M cU)) = w7 at *
              obtain ⟨m0, m1, m2, m3, m4, m5, m6, m7, m8⟩ := put9_of (x0 := .int .i64 k0) (x1 := .slice pv M cV) (x2 := .slice pu M cU) (x3 := .int .i64 b) (x4 := .int .i64 d) (x5 := .int .i64 n) (x6 := .int .i64 e0) (x7 := .slice Pms ms.length Cms) (x8 := .string str) n_r_0 n_r_1 n_r_2 n_r_3 n_r_4 n_r_5 n_r_6 n_r_7 n_r_8
              clear HT HQ hl hr hp
              try clear hlT
              try clear hend
              try clear hlt
              try clear hj
              try clear hBc
              try clear hsz
              try clear d3
              try clear d3n
              try clear hke
              try clear hk
              try clear d4
              try clear HV
              try clear HRX
              try clear HKY
              try clear HPI
              try clear hE
              try clear hltT
              try clear hltI
              try clear hltTI
              try clear HX
              try clear HTK
              try clear HB
              try clear n8
              go_wp2
              exact bodyPost_ret (v := .agg #[.int .i64 k0, .slice pv M cV, .slice pu M cU, .int .i64 b, .int .i64 d, .int .i64 n, .int .i64 e0, .slice Pms ms.length Cms, .string str]) (by simp [results, Tryd.results49, go_sem, m0, m1, m2, m3, m4, m5, m6, m7, m8]) rfl ⟨_, _, rfl, put9_sl HS1.out (HOA.out.mono (by omega)), put9_sl HS2.out (HOB.out.mono (by omega)), HOA.out.mono (by omega), HOB.out.mono (by omega), put9_below hB9 (by omega)⟩
        · have heq : (x0, x1, x2) = (p0, p1, p2) := by obtain ⟨rfl, rfl, rfl⟩ := (eqP_iff _ _ _ _ _ _).1 hE; rfl
          cases t
          · have HQ := Lib.hid ((HPI.out false).1 heq)
            clear heq
            go_wp2_with fail
            have g_k_c_e_1 := fun dd os => cell_regrown k_c_e_1 dd os
            have g_k_c_e_2 := fun dd os => cell_regrown k_c_e_2 dd os
            have g_k_hx0 := fun dd os => cell_regrown k_hx0 dd os
            have g_k_hx1 := fun dd os => cell_regrown k_hx1 dd os
            have g_k_hx2 := fun dd os => cell_regrown k_hx2 dd os
            have g_k_ht0 := fun dd os => cell_regrown k_ht0 dd os
            have g_k_c_p_0 := fun dd os => cell_regrown k_c_p_0 dd os
            have g_k_c_p_1 := fun dd os => cell_regrown k_c_p_1 dd os
            have g_k_c_p_2 := fun dd os => cell_regrown k_c_p_2 dd os
            have q0 : Hid (∀ dd os, Calls Tryd.prog 84 #[pt x0 x1 x2, pt p0 p1 p2] (Go.Sort.grow (redrawn wr dd) os) fun e w'' => e = .returned (.int .i64 cv) ∧ ∃ p : Regrown, w'' = Go.Sort.grow (redrawn wr p.d) p.os) := Lib.hid (fun dd os => Calls.regrown_of (cref_is (p := (x0, x1, x2)) (q := (p0, p1, p2)) HV.out (Go.Sort.grow (redrawn wr dd) os)))
            refine wp_region_quiet_below (by kernel_rfl) (by kernel_rfl) ?_
            repeat (go_big_quiet_step (first | (go_at_call 84; with_reducible exact q0.out _ _)))
            refine wpQuiet_nil ?_
            intro _ hw'
            obtain ⟨⟨dq, osq⟩, hw''⟩ := hw'
            subst hw''
            replace k_c_e_1 := g_k_c_e_1 dq osq
            clear g_k_c_e_1
            replace k_c_e_2 := g_k_c_e_2 dq osq
            clear g_k_c_e_2
            replace k_hx0 := g_k_hx0 dq osq
            clear g_k_hx0
            replace k_hx1 := g_k_hx1 dq osq
            clear g_k_hx1
            replace k_hx2 := g_k_hx2 dq osq
            clear g_k_hx2
            replace k_ht0 := g_k_ht0 dq osq
            clear g_k_ht0
            replace k_c_p_0 := g_k_c_p_0 dq osq
            clear g_k_c_p_0
            replace k_c_p_1 := g_k_c_p_1 dq osq
            clear g_k_c_p_1
            replace k_c_p_2 := g_k_c_p_2 dq osq
            clear g_k_c_p_2
            clear q0
            have hb_w9 := below_regrown wr dq osq
            generalize Go.Sort.grow (redrawn wr dq) osq = w9 at *
            replace HT := Lib.hid (HT.out.later hb_w9)
            replace hBc := below_two hBc hb_w9
            replace hsz := hBc.size
            clear hb_w9
            go_wp2_with fail
            have g_k_c_e_1 := fun dd os => cell_regrown k_c_e_1 dd os
            have g_k_c_e_2 := fun dd os => cell_regrown k_c_e_2 dd os
            have g_k_hx0 := fun dd os => cell_regrown k_hx0 dd os
            have g_k_hx1 := fun dd os => cell_regrown k_hx1 dd os
            have g_k_hx2 := fun dd os => cell_regrown k_hx2 dd os
            have g_k_ht0 := fun dd os => cell_regrown k_ht0 dd os
            have g_k_c_p_0 := fun dd os => cell_regrown k_c_p_0 dd os
            have g_k_c_p_1 := fun dd os => cell_regrown k_c_p_1 dd os
            have g_k_c_p_2 := fun dd os => cell_regrown k_c_p_2 dd os
            refine wp_region_quiet_below (by kernel_rfl) (by kernel_rfl) ?_
            repeat (go_big_quiet_step (first | fail))
            refine wpQuiet_nil ?_
            intro _ hw'
            obtain ⟨⟨dq, osq⟩, hw''⟩ := hw'
            subst hw''
            replace k_c_e_1 := g_k_c_e_1 dq osq
            clear g_k_c_e_1
            replace k_c_e_2 := g_k_c_e_2 dq osq
            clear g_k_c_e_2
            replace k_hx0 := g_k_hx0 dq osq
            clear g_k_hx0
            replace k_hx1 := g_k_hx1 dq osq
            clear g_k_hx1
            replace k_hx2 := g_k_hx2 dq osq
            clear g_k_hx2
            replace k_ht0 := g_k_ht0 dq osq
            clear g_k_ht0
            replace k_c_p_0 := g_k_c_p_0 dq osq
            clear g_k_c_p_0
            replace k_c_p_1 := g_k_c_p_1 dq osq
            clear g_k_c_p_1
            replace k_c_p_2 := g_k_c_p_2 dq osq
            clear g_k_c_p_2
            have hb_w8 := below_regrown w9 dq osq
            generalize Go.Sort.grow (redrawn w9 dq) osq = w8 at *
            replace HT := Lib.hid (HT.out.later hb_w8)
            replace hBc := below_two hBc hb_w8
            replace hsz := hBc.size
            clear hb_w8
            go_wp2_with (first
              | (at_builtin; refine wpList_append_own_at _ rfl _ _ 22 rfl w1.heap.size 57 iP (.agg #[.int .i64 0, .int .i64 0, .int .i64 0]) 3 24 Tryd.underlying22 hiP hP0 hP1 hP2 rfl (by decide) _ _ _ rfl (HT.out.P.alloc _) ⟨w8.heap.size, 0, none⟩ 1 1 [.int .i64 p0, .int .i64 p1, .int .i64 p2] rfl rfl (cells3_new _ _ _ _ _ rfl) (one3 _ _ _) (by unfold maxLen; omega) (by omega) (by simp; omega) ?_; intro v' wp hown hgrow _ hob; have hBn := push_below HT.out.P hBc hsz hgrow; have HT := Lib.hid (HT.out.pushP hown hgrow hob); clear hown hgrow hob hBc; have hBc := hBn; clear hBn; replace hsz := hBc.size; clear k_c_e_1 k_c_e_2 k_hx0 k_hx1 k_hx2 k_ht0 k_c_p_0 k_c_p_1 k_c_p_2; have k_c_e_1 := cell_later hBc c_e_1; have k_c_e_2 := cell_later hBc c_e_2; have k_hx0 := cell_later hBc hx0; have k_hx1 := cell_later hBc hx1; have k_hx2 := cell_later hBc hx2; have k_ht0 := cell_later hBc ht0; have k_c_p_0 := cell_later hBc c_p_0; have k_c_p_1 := cell_later hBc c_p_1; have k_c_p_2 := cell_later hBc c_p_2)
              | (at_builtin; refine wpList_append_own_at _ rfl _ _ 23 rfl w1.heap.size 4 iB (.bool false) 1 1 Tryd.underlying23 hiB hB0_ hB1_ hB2_ rfl (by decide) _ _ _ rfl (HT.out.T.alloc _) ⟨wp.heap.size, 0, none⟩ 1 1 [.bool (false || tk)] rfl rfl (cells1_new _ _ _ rfl) (one1 _) (by unfold maxLen; omega) (by omega) (by simp; omega) ?_; intro u' wt hown hgrow _ hob; have hBn := push_below HT.out.T hBc hsz hgrow; have HT := Lib.hid (HT.out.pushT hown hgrow hob); clear hown hgrow hob hBc; have hBc := hBn; clear hBn; replace hsz := hBc.size; clear k_c_e_1 k_c_e_2 k_hx0 k_hx1 k_hx2 k_ht0 k_c_p_0 k_c_p_1 k_c_p_2; have k_c_e_1 := cell_later hBc c_e_1; have k_c_e_2 := cell_later hBc c_e_2; have k_hx0 := cell_later hBc hx0; have k_hx1 := cell_later hBc hx1; have k_hx2 := cell_later hBc hx2; have k_ht0 := cell_later hBc ht0; have k_c_p_0 := cell_later hBc c_p_0; have k_c_p_1 := cell_later hBc c_p_1; have k_c_p_2 := cell_later hBc c_p_2)
              | fail)
            clear k_c_e_1 k_c_e_2 k_hx0 k_hx1 k_hx2 k_ht0 k_c_p_0 k_c_p_1 k_c_p_2 hx0 hx1 hx2 ht0
            go_loopw [7, 8, 9] (fun v u i wr => PutBt ps ts (ps.take k ++ [(p0, p1, p2)]) (ts.take k ++ [(false || tk)]) (k + 1) (k + 1) w1 v u i wr) (fun _ _ i _ => ps.length - (intOf i).toNat)
            case atStart => exact ⟨0, by omega, by go_num, by simpa using HT.out, hBc⟩
            case round =>
              clear HT hBc hsz
              obtain ⟨j, hj, rfl, hT, hBc⟩ := hrel
              have HT := Lib.hid hT
              clear hT
              have hsz := hBc.size
              by_cases hlt : k + 1 + j < ps.length
              · obtain ⟨x, hx⟩ : ∃ x, ps[k + 1 + j]? = some x := ⟨_, List.getElem?_eq_getElem hlt⟩
                obtain ⟨tk, ht⟩ : ∃ y, ts[k + 1 + j]? = some y := ⟨_, List.getElem?_eq_getElem (by have := hl.out; (try dsimp only at this); omega)⟩
                obtain ⟨bx, ox, ex, hx0, hx1, hx2⟩ := pits_at (HX0.out.later hB1).ps hx
                cases ex
                obtain ⟨bt, ot, et, ht0⟩ := bools_at (HX0.out.later hB1).ts ht
                cases et
                have HX := Lib.hid hx
                have HTK := Lib.hid ht
                clear hx ht
                obtain ⟨x0, x1, x2⟩ := x
                try dsimp only at hx0 hx1 hx2
                have hltT : k + 1 + j < ts.length := by have := hl.out; (try dsimp only at this); omega
                have hltI : ((k + 1 + j : Nat) : Int) < (ps.length : Int) := by omega
                have hltTI : ((k + 1 + j : Nat) : Int) < (ts.length : Int) := by omega
                have k_c_e_1 := cell_later hBc c_e_1
                have k_c_e_2 := cell_later hBc c_e_2
                have k_hx0 := cell_later hBc hx0
                have k_hx1 := cell_later hBc hx1
                have k_hx2 := cell_later hBc hx2
                have k_ht0 := cell_later hBc ht0
                have k_c_p_0 := cell_later hBc c_p_0
                have k_c_p_1 := cell_later hBc c_p_1
                have k_c_p_2 := cell_later hBc c_p_2
                go_wp2_with (first
                  | (at_builtin; refine wpList_append_own_at _ rfl _ _ 22 rfl w1.heap.size 57 iP (.agg #[.int .i64 0, .int .i64 0, .int .i64 0]) 3 24 Tryd.underlying22 hiP hP0 hP1 hP2 rfl (by decide) _ _ _ rfl (HT.out.P.alloc _) ⟨wr.heap.size, 0, none⟩ 1 1 [.int .i64 x0, .int .i64 x1, .int .i64 x2] rfl rfl (cells3_new _ _ _ _ _ rfl) (one3 _ _ _) (by unfold maxLen; omega) (by omega) (by simp; omega) ?_; intro v' wp hown hgrow _ hob; have hBn := push_below HT.out.P hBc hsz hgrow; have HT := Lib.hid (HT.out.pushP hown hgrow hob); clear hown hgrow hob hBc; have hBc := hBn; clear hBn; replace hsz := hBc.size; clear k_c_e_1 k_c_e_2 k_hx0 k_hx1 k_hx2 k_ht0 k_c_p_0 k_c_p_1 k_c_p_2; have k_c_e_1 := cell_later hBc c_e_1; have k_c_e_2 := cell_later hBc c_e_2; have k_hx0 := cell_later hBc hx0; have k_hx1 := cell_later hBc hx1; have k_hx2 := cell_later hBc hx2; have k_ht0 := cell_later hBc ht0; have k_c_p_0 := cell_later hBc c_p_0; have k_c_p_1 := cell_later hBc c_p_1; have k_c_p_2 := cell_later hBc c_p_2)
                  | (at_builtin; refine wpList_append_own_at _ rfl _ _ 23 rfl w1.heap.size 4 iB (.bool false) 1 1 Tryd.underlying23 hiB hB0_ hB1_ hB2_ rfl (by decide) _ _ _ rfl (HT.out.T.alloc _) ⟨wp.heap.size, 0, none⟩ 1 1 [.bool tk] rfl rfl (cells1_new _ _ _ rfl) (one1 _) (by unfold maxLen; omega) (by omega) (by simp; omega) ?_; intro u' wt hown hgrow _ hob; have hBn := push_below HT.out.T hBc hsz hgrow; have HT := Lib.hid (HT.out.pushT hown hgrow hob); clear hown hgrow hob hBc; have hBc := hBn; clear hBn; replace hsz := hBc.size; clear k_c_e_1 k_c_e_2 k_hx0 k_hx1 k_hx2 k_ht0 k_c_p_0 k_c_p_1 k_c_p_2; have k_c_e_1 := cell_later hBc c_e_1; have k_c_e_2 := cell_later hBc c_e_2; have k_hx0 := cell_later hBc hx0; have k_hx1 := cell_later hBc hx1; have k_hx2 := cell_later hBc hx2; have k_ht0 := cell_later hBc ht0; have k_c_p_0 := cell_later hBc c_p_0; have k_c_p_1 := cell_later hBc c_p_1; have k_c_p_2 := cell_later hBc c_p_2)
                  | fail)
                go_wp2
                go_roundw
                case rel => exact ⟨j + 1, by omega, by go_num, by rw [drop_take_succ HX.out, drop_take_succ HTK.out, ← List.append_assoc, ← List.append_assoc]; exact HT.out, hBc⟩
                case measure => simp [intOf]; omega
              · have hend : k + 1 + j = ps.length := by omega
                obtain ⟨M, hM⟩ : ∃ M, Hid (k + 1 + j = M) := ⟨_, Lib.hid rfl⟩
                have hT2 := HT.out
                rw [hM.out] at hT2
                clear HT
                have HT := Lib.hid hT2
                clear hT2
                obtain ⟨pv, cV, rfl⟩ := own_shape2 HT.out.P
                obtain ⟨pu, cU, rfl⟩ := own_shape2 HT.out.T
                have k_c_e_0 := cell_later hBc c_e_0
                have k_f_e_0 := frozen_later hBc c_e_0 f_e_0
                have k_c_r_0 := cell_later hBc c_r_0
                have k_f_r_0 := frozen_later hBc c_r_0 f_r_0
                have k_c_e_1 := cell_later hBc c_e_1
                have k_f_e_1 := frozen_later hBc c_e_1 f_e_1
                have k_c_r_1 := cell_later hBc c_r_1
                have k_f_r_1 := frozen_later hBc c_r_1 f_r_1
                have k_c_e_2 := cell_later hBc c_e_2
                have k_f_e_2 := frozen_later hBc c_e_2 f_e_2
                have k_c_r_2 := cell_later hBc c_r_2
                have k_f_r_2 := frozen_later hBc c_r_2 f_r_2
                have k_c_e_3 := cell_later hBc c_e_3
                have k_f_e_3 := frozen_later hBc c_e_3 f_e_3
                have k_c_r_3 := cell_later hBc c_r_3
                have k_f_r_3 := frozen_later hBc c_r_3 f_r_3
                have k_c_e_4 := cell_later hBc c_e_4
                have k_f_e_4 := frozen_later hBc c_e_4 f_e_4
                have k_c_r_4 := cell_later hBc c_r_4
                have k_f_r_4 := frozen_later hBc c_r_4 f_r_4
                have k_c_e_5 := cell_later hBc c_e_5
                have k_f_e_5 := frozen_later hBc c_e_5 f_e_5
                have k_c_r_5 := cell_later hBc c_r_5
                have k_f_r_5 := frozen_later hBc c_r_5 f_r_5
                have k_c_e_6 := cell_later hBc c_e_6
                have k_f_e_6 := frozen_later hBc c_e_6 f_e_6
                have k_c_r_6 := cell_later hBc c_r_6
                have k_f_r_6 := frozen_later hBc c_r_6 f_r_6
                have k_c_e_7 := cell_later hBc c_e_7
                have k_f_e_7 := frozen_later hBc c_e_7 f_e_7
                have k_c_r_7 := cell_later hBc c_r_7
                have k_f_r_7 := frozen_later hBc c_r_7 f_r_7
                have k_c_e_8 := cell_later hBc c_e_8
                have k_f_e_8 := frozen_later hBc c_e_8 f_e_8
                have k_c_r_8 := cell_later hBc c_r_8
                have k_f_r_8 := frozen_later hBc c_r_8 f_r_8
                go_upto_region 19 with fail
                have n_e_0 : ((wr.setCell ⟨w.heap.size, 1, none⟩ (.slice pv M cV)).setCell ⟨w.heap.size, 2, none⟩ (.slice pu M cU)).cell? ⟨w.heap.size, 0, none⟩ = some (.int .i64 k0) := set_beside (by decide) (set_beside (by decide) k_c_e_0)
                have n_r_0 : ((wr.setCell ⟨w.heap.size, 1, none⟩ (.slice pv M cV)).setCell ⟨w.heap.size, 2, none⟩ (.slice pu M cU)).cell? ⟨w.heap.size + 1 + 1, 0, none⟩ = some (.int .i64 0) := set_far (by omega) (set_far (by omega) k_c_r_0)
                have nf_r_0 : ((wr.setCell ⟨w.heap.size, 1, none⟩ (.slice pv M cV)).setCell ⟨w.heap.size, 2, none⟩ (.slice pu M cU)).frozen? ⟨w.heap.size + 1 + 1, 0, none⟩ = false := set_frozen (set_frozen k_f_r_0)
                have n_e_1 : ((wr.setCell ⟨w.heap.size, 1, none⟩ (.slice pv M cV)).setCell ⟨w.heap.size, 2, none⟩ (.slice pu M cU)).cell? ⟨w.heap.size, 1, none⟩ = some (.slice pv M cV) := set_beside (by decide) (set_same (held_of k_c_e_1))
                have n_r_1 : ((wr.setCell ⟨w.heap.size, 1, none⟩ (.slice pv M cV)).setCell ⟨w.heap.size, 2, none⟩ (.slice pu M cU)).cell? ⟨w.heap.size + 1 + 1, 1, none⟩ = some (.slice none 0 0) := set_far (by omega) (set_far (by omega) k_c_r_1)
                have nf_r_1 : ((wr.setCell ⟨w.heap.size, 1, none⟩ (.slice pv M cV)).setCell ⟨w.heap.size, 2, none⟩ (.slice pu M cU)).frozen? ⟨w.heap.size + 1 + 1, 1, none⟩ = false := set_frozen (set_frozen k_f_r_1)
                have n_e_2 : ((wr.setCell ⟨w.heap.size, 1, none⟩ (.slice pv M cV)).setCell ⟨w.heap.size, 2, none⟩ (.slice pu M cU)).cell? ⟨w.heap.size, 2, none⟩ = some (.slice pu M cU) := set_same (set_held (held_of k_c_e_2))
                have n_r_2 : ((wr.setCell ⟨w.heap.size, 1, none⟩ (.slice pv M cV)).setCell ⟨w.heap.size, 2, none⟩ (.slice pu M cU)).cell? ⟨w.heap.size + 1 + 1, 2, none⟩ = some (.slice none 0 0) := set_far (by omega) (set_far (by omega) k_c_r_2)
                have nf_r_2 : ((wr.setCell ⟨w.heap.size, 1, none⟩ (.slice pv M cV)).setCell ⟨w.heap.size, 2, none⟩ (.slice pu M cU)).frozen? ⟨w.heap.size + 1 + 1, 2, none⟩ = false := set_frozen (set_frozen k_f_r_2)
                have n_e_3 : ((wr.setCell ⟨w.heap.size, 1, none⟩ (.slice pv M cV)).setCell ⟨w.heap.size, 2, none⟩ (.slice pu M cU)).cell? ⟨w.heap.size, 3, none⟩ = some (.int .i64 b) := set_beside (by decide) (set_beside (by decide) k_c_e_3)
                have n_r_3 : ((wr.setCell ⟨w.heap.size, 1, none⟩ (.slice pv M cV)).setCell ⟨w.heap.size, 2, none⟩ (.slice pu M cU)).cell? ⟨w.heap.size + 1 + 1, 3, none⟩ = some (.int .i64 0) := set_far (by omega) (set_far (by omega) k_c_r_3)
                have nf_r_3 : ((wr.setCell ⟨w.heap.size, 1, none⟩ (.slice pv M cV)).setCell ⟨w.heap.size, 2, none⟩ (.slice pu M cU)).frozen? ⟨w.heap.size + 1 + 1, 3, none⟩ = false := set_frozen (set_frozen k_f_r_3)
                have n_e_4 : ((wr.setCell ⟨w.heap.size, 1, none⟩ (.slice pv M cV)).setCell ⟨w.heap.size, 2, none⟩ (.slice pu M cU)).cell? ⟨w.heap.size, 4, none⟩ = some (.int .i64 d) := set_beside (by decide) (set_beside (by decide) k_c_e_4)
                have n_r_4 : ((wr.setCell ⟨w.heap.size, 1, none⟩ (.slice pv M cV)).setCell ⟨w.heap.size, 2, none⟩ (.slice pu M cU)).cell? ⟨w.heap.size + 1 + 1, 4, none⟩ = some (.int .i64 0) := set_far (by omega) (set_far (by omega) k_c_r_4)
                have nf_r_4 : ((wr.setCell ⟨w.heap.size, 1, none⟩ (.slice pv M cV)).setCell ⟨w.heap.size, 2, none⟩ (.slice pu M cU)).frozen? ⟨w.heap.size + 1 + 1, 4, none⟩ = false := set_frozen (set_frozen k_f_r_4)
                have n_e_5 : ((wr.setCell ⟨w.heap.size, 1, none⟩ (.slice pv M cV)).setCell ⟨w.heap.size, 2, none⟩ (.slice pu M cU)).cell? ⟨w.heap.size, 5, none⟩ = some (.int .i64 n) := set_beside (by decide) (set_beside (by decide) k_c_e_5)
                have n_r_5 : ((wr.setCell ⟨w.heap.size, 1, none⟩ (.slice pv M cV)).setCell ⟨w.heap.size, 2, none⟩ (.slice pu M cU)).cell? ⟨w.heap.size + 1 + 1, 5, none⟩ = some (.int .i64 0) := set_far (by omega) (set_far (by omega) k_c_r_5)
                have nf_r_5 : ((wr.setCell ⟨w.heap.size, 1, none⟩ (.slice pv M cV)).setCell ⟨w.heap.size, 2, none⟩ (.slice pu M cU)).frozen? ⟨w.heap.size + 1 + 1, 5, none⟩ = false := set_frozen (set_frozen k_f_r_5)
                have n_e_6 : ((wr.setCell ⟨w.heap.size, 1, none⟩ (.slice pv M cV)).setCell ⟨w.heap.size, 2, none⟩ (.slice pu M cU)).cell? ⟨w.heap.size, 6, none⟩ = some (.int .i64 e0) := set_beside (by decide) (set_beside (by decide) k_c_e_6)
                have n_r_6 : ((wr.setCell ⟨w.heap.size, 1, none⟩ (.slice pv M cV)).setCell ⟨w.heap.size, 2, none⟩ (.slice pu M cU)).cell? ⟨w.heap.size + 1 + 1, 6, none⟩ = some (.int .i64 0) := set_far (by omega) (set_far (by omega) k_c_r_6)
                have nf_r_6 : ((wr.setCell ⟨w.heap.size, 1, none⟩ (.slice pv M cV)).setCell ⟨w.heap.size, 2, none⟩ (.slice pu M cU)).frozen? ⟨w.heap.size + 1 + 1, 6, none⟩ = false := set_frozen (set_frozen k_f_r_6)
                have n_e_7 : ((wr.setCell ⟨w.heap.size, 1, none⟩ (.slice pv M cV)).setCell ⟨w.heap.size, 2, none⟩ (.slice pu M cU)).cell? ⟨w.heap.size, 7, none⟩ = some (.slice Pms ms.length Cms) := set_beside (by decide) (set_beside (by decide) k_c_e_7)
                have n_r_7 : ((wr.setCell ⟨w.heap.size, 1, none⟩ (.slice pv M cV)).setCell ⟨w.heap.size, 2, none⟩ (.slice pu M cU)).cell? ⟨w.heap.size + 1 + 1, 7, none⟩ = some (.slice none 0 0) := set_far (by omega) (set_far (by omega) k_c_r_7)
                have nf_r_7 : ((wr.setCell ⟨w.heap.size, 1, none⟩ (.slice pv M cV)).setCell ⟨w.heap.size, 2, none⟩ (.slice pu M cU)).frozen? ⟨w.heap.size + 1 + 1, 7, none⟩ = false := set_frozen (set_frozen k_f_r_7)
                have n_e_8 : ((wr.setCell ⟨w.heap.size, 1, none⟩ (.slice pv M cV)).setCell ⟨w.heap.size, 2, none⟩ (.slice pu M cU)).cell? ⟨w.heap.size, 8, none⟩ = some (.string str) := set_beside (by decide) (set_beside (by decide) k_c_e_8)
                have n_r_8 : ((wr.setCell ⟨w.heap.size, 1, none⟩ (.slice pv M cV)).setCell ⟨w.heap.size, 2, none⟩ (.slice pu M cU)).cell? ⟨w.heap.size + 1 + 1, 8, none⟩ = some (.string ⟨#[]⟩) := set_far (by omega) (set_far (by omega) k_c_r_8)
                have nf_r_8 : ((wr.setCell ⟨w.heap.size, 1, none⟩ (.slice pv M cV)).setCell ⟨w.heap.size, 2, none⟩ (.slice pu M cU)).frozen? ⟨w.heap.size + 1 + 1, 8, none⟩ = false := set_frozen (set_frozen k_f_r_8)
                have e1 : ps.take k ++ [(p0, p1, p2)] ++ (ps.drop (k + 1)).take j = (Evt.putE (p0, p1, p2) false ⟨k0, ps, ts, b, d, n, e0, ms, str⟩).ps := by rw [show (ps.drop (k + 1)).take j = ps.drop (k + 1) from List.take_of_length_le (by rw [List.length_drop]; omega)]; exact (HQ.out).1
                have hlT : ts.length = ps.length := hl.out
                have e2 : ts.take k ++ [(false || tk)] ++ (ts.drop (k + 1)).take j = (Evt.putE (p0, p1, p2) false ⟨k0, ps, ts, b, d, n, e0, ms, str⟩).ts := by rw [show (ts.drop (k + 1)).take j = ts.drop (k + 1) from List.take_of_length_le (by rw [List.length_drop]; omega)]; exact (HQ.out).2
                have HN1 : (ps.take k ++ [(p0, p1, p2)] ++ (ps.drop (k + 1)).take j).length = M := by rw [← hM.out]; rw [List.length_append, List.length_append, List.length_take, List.length_take, List.length_drop, List.length_singleton]; omega
                have HN2 : (ts.take k ++ [(false || tk)] ++ (ts.drop (k + 1)).take j).length = M := by rw [← hM.out]; rw [List.length_append, List.length_append, List.length_take, List.length_take, List.length_drop, List.length_singleton]; omega
                have HO1 := own_row HT.out.P
                have HO2 := own_row HT.out.T
                have S1 := ((row_sl lenP HN1.symm (by have := hM.out; omega) HT.out.P).set (o := 1) (x := .slice pv M cV) HO1 z_e).set (o := 2) (x := .slice pu M cU) HO1 z_e
                have S2 := ((row_sl lenB HN2.symm (by have := hM.out; omega) HT.out.T).set (o := 1) (x := .slice pv M cV) HO2 z_e).set (o := 2) (x := .slice pu M cU) HO2 z_e
                rw [e1] at S1
                rw [e2] at S2
                have HS1 := Lib.hid S1
                have HS2 := Lib.hid S2
                have HOA := Lib.hid HO1
                have HOB := Lib.hid HO2
                have hB9 : Below w.heap.size w ((wr.setCell ⟨w.heap.size, 1, none⟩ (.slice pv M cV)).setCell ⟨w.heap.size, 2, none⟩ (.slice pu M cU)) := set1_below (set1_below (below_two hB1 hBc) (Nat.le_refl _)) (Nat.le_refl _)
                clear e1 e2 HN1 HN2 HO1 HO2 S1 S2 k_c_e_0 k_f_e_0 k_c_r_0 k_f_r_0 c_e_0 f_e_0 c_r_0 f_r_0 k_c_e_1 k_f_e_1 k_c_r_1 k_f_r_1 c_e_1 f_e_1 c_r_1 f_r_1 k_c_e_2 k_f_e_2 k_c_r_2 k_f_r_2 c_e_2 f_e_2 c_r_2 f_r_2 k_c_e_3 k_f_e_3 k_c_r_3 k_f_r_3 c_e_3 f_e_3 c_r_3 f_r_3 k_c_e_4 k_f_e_4 k_c_r_4 k_f_r_4 c_e_4 f_e_4 c_r_4 f_r_4 k_c_e_5 k_f_e_5 k_c_r_5 k_f_r_5 c_e_5 f_e_5 c_r_5 f_r_5 k_c_e_6 k_f_e_6 k_c_r_6 k_f_r_6 c_e_6 f_e_6 c_r_6 f_r_6 k_c_e_7 k_f_e_7 k_c_r_7 k_f_r_7 c_e_7 f_e_7 c_r_7 f_r_7 k_c_e_8 k_f_e_8 k_c_r_8 k_f_r_8 c_e_8 f_e_8 c_r_8 f_r_8
                generalize ((wr.setCell ⟨w.heap.size, 1, none⟩ (.slice pv M cV)).setCell ⟨w.heap.size, 2, none⟩ (.slice pu M cU)) = w7 at *
                obtain ⟨m0, m1, m2, m3, m4, m5, m6, m7, m8⟩ := put9_of (x0 := .int .i64 k0) (x1 := .slice pv M cV) (x2 := .slice pu M cU) (x3 := .int .i64 b) (x4 := .int .i64 d) (x5 := .int .i64 n) (x6 := .int .i64 e0) (x7 := .slice Pms ms.length Cms) (x8 := .string str) n_r_0 n_r_1 n_r_2 n_r_3 n_r_4 n_r_5 n_r_6 n_r_7 n_r_8
                clear HT HQ hl hr hp
                try clear hlT
                try clear hend
                try clear hlt
                try clear hj
                try clear hBc
                try clear hsz
                try clear d3
                try clear d3n
                try clear hke
                try clear hk
                try clear d4
                try clear HV
                try clear HRX
                try clear HKY
                try clear HPI
                try clear hE
                try clear hltT
                try clear hltI
                try clear hltTI
                try clear HX
                try clear HTK
                try clear HB
                try clear n8
                go_wp2
                exact bodyPost_ret (v := .agg #[.int .i64 k0, .slice pv M cV, .slice pu M cU, .int .i64 b, .int .i64 d, .int .i64 n, .int .i64 e0, .slice Pms ms.length Cms, .string str]) (by simp [results, Tryd.results49, go_sem, m0, m1, m2, m3, m4, m5, m6, m7, m8]) rfl ⟨_, _, rfl, put9_sl HS1.out (HOA.out.mono (by omega)), put9_sl HS2.out (HOB.out.mono (by omega)), HOA.out.mono (by omega), HOB.out.mono (by omega), put9_below hB9 (by omega)⟩
          · have HQ := Lib.hid ((HPI.out true).1 heq)
            clear heq
            go_wp2_with fail
            have g_k_c_e_1 := fun dd os => cell_regrown k_c_e_1 dd os
            have g_k_c_e_2 := fun dd os => cell_regrown k_c_e_2 dd os
            have g_k_hx0 := fun dd os => cell_regrown k_hx0 dd os
            have g_k_hx1 := fun dd os => cell_regrown k_hx1 dd os
            have g_k_hx2 := fun dd os => cell_regrown k_hx2 dd os
            have g_k_ht0 := fun dd os => cell_regrown k_ht0 dd os
            have g_k_c_p_0 := fun dd os => cell_regrown k_c_p_0 dd os
            have g_k_c_p_1 := fun dd os => cell_regrown k_c_p_1 dd os
            have g_k_c_p_2 := fun dd os => cell_regrown k_c_p_2 dd os
            have q0 : Hid (∀ dd os, Calls Tryd.prog 84 #[pt x0 x1 x2, pt p0 p1 p2] (Go.Sort.grow (redrawn wr dd) os) fun e w'' => e = .returned (.int .i64 cv) ∧ ∃ p : Regrown, w'' = Go.Sort.grow (redrawn wr p.d) p.os) := Lib.hid (fun dd os => Calls.regrown_of (cref_is (p := (x0, x1, x2)) (q := (p0, p1, p2)) HV.out (Go.Sort.grow (redrawn wr dd) os)))
            refine wp_region_quiet_below (by kernel_rfl) (by kernel_rfl) ?_
            repeat (go_big_quiet_step (first | (go_at_call 84; with_reducible exact q0.out _ _)))
            refine wpQuiet_nil ?_
            intro _ hw'
            obtain ⟨⟨dq, osq⟩, hw''⟩ := hw'
            subst hw''
            replace k_c_e_1 := g_k_c_e_1 dq osq
            clear g_k_c_e_1
            replace k_c_e_2 := g_k_c_e_2 dq osq
            clear g_k_c_e_2
            replace k_hx0 := g_k_hx0 dq osq
            clear g_k_hx0
            replace k_hx1 := g_k_hx1 dq osq
            clear g_k_hx1
            replace k_hx2 := g_k_hx2 dq osq
            clear g_k_hx2
            replace k_ht0 := g_k_ht0 dq osq
            clear g_k_ht0
            replace k_c_p_0 := g_k_c_p_0 dq osq
            clear g_k_c_p_0
            replace k_c_p_1 := g_k_c_p_1 dq osq
            clear g_k_c_p_1
            replace k_c_p_2 := g_k_c_p_2 dq osq
            clear g_k_c_p_2
            clear q0
            have hb_w9 := below_regrown wr dq osq
            generalize Go.Sort.grow (redrawn wr dq) osq = w9 at *
            replace HT := Lib.hid (HT.out.later hb_w9)
            replace hBc := below_two hBc hb_w9
            replace hsz := hBc.size
            clear hb_w9
            go_wp2_with fail
            have g_k_c_e_1 := fun dd os => cell_regrown k_c_e_1 dd os
            have g_k_c_e_2 := fun dd os => cell_regrown k_c_e_2 dd os
            have g_k_hx0 := fun dd os => cell_regrown k_hx0 dd os
            have g_k_hx1 := fun dd os => cell_regrown k_hx1 dd os
            have g_k_hx2 := fun dd os => cell_regrown k_hx2 dd os
            have g_k_ht0 := fun dd os => cell_regrown k_ht0 dd os
            have g_k_c_p_0 := fun dd os => cell_regrown k_c_p_0 dd os
            have g_k_c_p_1 := fun dd os => cell_regrown k_c_p_1 dd os
            have g_k_c_p_2 := fun dd os => cell_regrown k_c_p_2 dd os
            refine wp_region_quiet_below (by kernel_rfl) (by kernel_rfl) ?_
            repeat (go_big_quiet_step (first | fail))
            refine wpQuiet_nil ?_
            intro _ hw'
            obtain ⟨⟨dq, osq⟩, hw''⟩ := hw'
            subst hw''
            replace k_c_e_1 := g_k_c_e_1 dq osq
            clear g_k_c_e_1
            replace k_c_e_2 := g_k_c_e_2 dq osq
            clear g_k_c_e_2
            replace k_hx0 := g_k_hx0 dq osq
            clear g_k_hx0
            replace k_hx1 := g_k_hx1 dq osq
            clear g_k_hx1
            replace k_hx2 := g_k_hx2 dq osq
            clear g_k_hx2
            replace k_ht0 := g_k_ht0 dq osq
            clear g_k_ht0
            replace k_c_p_0 := g_k_c_p_0 dq osq
            clear g_k_c_p_0
            replace k_c_p_1 := g_k_c_p_1 dq osq
            clear g_k_c_p_1
            replace k_c_p_2 := g_k_c_p_2 dq osq
            clear g_k_c_p_2
            have hb_w8 := below_regrown w9 dq osq
            generalize Go.Sort.grow (redrawn w9 dq) osq = w8 at *
            replace HT := Lib.hid (HT.out.later hb_w8)
            replace hBc := below_two hBc hb_w8
            replace hsz := hBc.size
            clear hb_w8
            go_wp2_with (first
              | (at_builtin; refine wpList_append_own_at _ rfl _ _ 22 rfl w1.heap.size 57 iP (.agg #[.int .i64 0, .int .i64 0, .int .i64 0]) 3 24 Tryd.underlying22 hiP hP0 hP1 hP2 rfl (by decide) _ _ _ rfl (HT.out.P.alloc _) ⟨w8.heap.size, 0, none⟩ 1 1 [.int .i64 p0, .int .i64 p1, .int .i64 p2] rfl rfl (cells3_new _ _ _ _ _ rfl) (one3 _ _ _) (by unfold maxLen; omega) (by omega) (by simp; omega) ?_; intro v' wp hown hgrow _ hob; have hBn := push_below HT.out.P hBc hsz hgrow; have HT := Lib.hid (HT.out.pushP hown hgrow hob); clear hown hgrow hob hBc; have hBc := hBn; clear hBn; replace hsz := hBc.size; clear k_c_e_1 k_c_e_2 k_hx0 k_hx1 k_hx2 k_ht0 k_c_p_0 k_c_p_1 k_c_p_2; have k_c_e_1 := cell_later hBc c_e_1; have k_c_e_2 := cell_later hBc c_e_2; have k_hx0 := cell_later hBc hx0; have k_hx1 := cell_later hBc hx1; have k_hx2 := cell_later hBc hx2; have k_ht0 := cell_later hBc ht0; have k_c_p_0 := cell_later hBc c_p_0; have k_c_p_1 := cell_later hBc c_p_1; have k_c_p_2 := cell_later hBc c_p_2)
              | (at_builtin; refine wpList_append_own_at _ rfl _ _ 23 rfl w1.heap.size 4 iB (.bool false) 1 1 Tryd.underlying23 hiB hB0_ hB1_ hB2_ rfl (by decide) _ _ _ rfl (HT.out.T.alloc _) ⟨wp.heap.size, 0, none⟩ 1 1 [.bool (true || tk)] rfl rfl (cells1_new _ _ _ rfl) (one1 _) (by unfold maxLen; omega) (by omega) (by simp; omega) ?_; intro u' wt hown hgrow _ hob; have hBn := push_below HT.out.T hBc hsz hgrow; have HT := Lib.hid (HT.out.pushT hown hgrow hob); clear hown hgrow hob hBc; have hBc := hBn; clear hBn; replace hsz := hBc.size; clear k_c_e_1 k_c_e_2 k_hx0 k_hx1 k_hx2 k_ht0 k_c_p_0 k_c_p_1 k_c_p_2; have k_c_e_1 := cell_later hBc c_e_1; have k_c_e_2 := cell_later hBc c_e_2; have k_hx0 := cell_later hBc hx0; have k_hx1 := cell_later hBc hx1; have k_hx2 := cell_later hBc hx2; have k_ht0 := cell_later hBc ht0; have k_c_p_0 := cell_later hBc c_p_0; have k_c_p_1 := cell_later hBc c_p_1; have k_c_p_2 := cell_later hBc c_p_2)
              | fail)
            clear k_c_e_1 k_c_e_2 k_hx0 k_hx1 k_hx2 k_ht0 k_c_p_0 k_c_p_1 k_c_p_2 hx0 hx1 hx2 ht0
            go_loopw [7, 8, 9] (fun v u i wr => PutBt ps ts (ps.take k ++ [(p0, p1, p2)]) (ts.take k ++ [(true || tk)]) (k + 1) (k + 1) w1 v u i wr) (fun _ _ i _ => ps.length - (intOf i).toNat)
            case atStart => exact ⟨0, by omega, by go_num, by simpa using HT.out, hBc⟩
            case round =>
              clear HT hBc hsz
              obtain ⟨j, hj, rfl, hT, hBc⟩ := hrel
              have HT := Lib.hid hT
              clear hT
              have hsz := hBc.size
              by_cases hlt : k + 1 + j < ps.length
              · obtain ⟨x, hx⟩ : ∃ x, ps[k + 1 + j]? = some x := ⟨_, List.getElem?_eq_getElem hlt⟩
                obtain ⟨tk, ht⟩ : ∃ y, ts[k + 1 + j]? = some y := ⟨_, List.getElem?_eq_getElem (by have := hl.out; (try dsimp only at this); omega)⟩
                obtain ⟨bx, ox, ex, hx0, hx1, hx2⟩ := pits_at (HX0.out.later hB1).ps hx
                cases ex
                obtain ⟨bt, ot, et, ht0⟩ := bools_at (HX0.out.later hB1).ts ht
                cases et
                have HX := Lib.hid hx
                have HTK := Lib.hid ht
                clear hx ht
                obtain ⟨x0, x1, x2⟩ := x
                try dsimp only at hx0 hx1 hx2
                have hltT : k + 1 + j < ts.length := by have := hl.out; (try dsimp only at this); omega
                have hltI : ((k + 1 + j : Nat) : Int) < (ps.length : Int) := by omega
                have hltTI : ((k + 1 + j : Nat) : Int) < (ts.length : Int) := by omega
                have k_c_e_1 := cell_later hBc c_e_1
                have k_c_e_2 := cell_later hBc c_e_2
                have k_hx0 := cell_later hBc hx0
                have k_hx1 := cell_later hBc hx1
                have k_hx2 := cell_later hBc hx2
                have k_ht0 := cell_later hBc ht0
                have k_c_p_0 := cell_later hBc c_p_0
                have k_c_p_1 := cell_later hBc c_p_1
                have k_c_p_2 := cell_later hBc c_p_2
                go_wp2_with (first
                  | (at_builtin; refine wpList_append_own_at _ rfl _ _ 22 rfl w1.heap.size 57 iP (.agg #[.int .i64 0, .int .i64 0, .int .i64 0]) 3 24 Tryd.underlying22 hiP hP0 hP1 hP2 rfl (by decide) _ _ _ rfl (HT.out.P.alloc _) ⟨wr.heap.size, 0, none⟩ 1 1 [.int .i64 x0, .int .i64 x1, .int .i64 x2] rfl rfl (cells3_new _ _ _ _ _ rfl) (one3 _ _ _) (by unfold maxLen; omega) (by omega) (by simp; omega) ?_; intro v' wp hown hgrow _ hob; have hBn := push_below HT.out.P hBc hsz hgrow; have HT := Lib.hid (HT.out.pushP hown hgrow hob); clear hown hgrow hob hBc; have hBc := hBn; clear hBn; replace hsz := hBc.size; clear k_c_e_1 k_c_e_2 k_hx0 k_hx1 k_hx2 k_ht0 k_c_p_0 k_c_p_1 k_c_p_2; have k_c_e_1 := cell_later hBc c_e_1; have k_c_e_2 := cell_later hBc c_e_2; have k_hx0 := cell_later hBc hx0; have k_hx1 := cell_later hBc hx1; have k_hx2 := cell_later hBc hx2; have k_ht0 := cell_later hBc ht0; have k_c_p_0 := cell_later hBc c_p_0; have k_c_p_1 := cell_later hBc c_p_1; have k_c_p_2 := cell_later hBc c_p_2)
                  | (at_builtin; refine wpList_append_own_at _ rfl _ _ 23 rfl w1.heap.size 4 iB (.bool false) 1 1 Tryd.underlying23 hiB hB0_ hB1_ hB2_ rfl (by decide) _ _ _ rfl (HT.out.T.alloc _) ⟨wp.heap.size, 0, none⟩ 1 1 [.bool tk] rfl rfl (cells1_new _ _ _ rfl) (one1 _) (by unfold maxLen; omega) (by omega) (by simp; omega) ?_; intro u' wt hown hgrow _ hob; have hBn := push_below HT.out.T hBc hsz hgrow; have HT := Lib.hid (HT.out.pushT hown hgrow hob); clear hown hgrow hob hBc; have hBc := hBn; clear hBn; replace hsz := hBc.size; clear k_c_e_1 k_c_e_2 k_hx0 k_hx1 k_hx2 k_ht0 k_c_p_0 k_c_p_1 k_c_p_2; have k_c_e_1 := cell_later hBc c_e_1; have k_c_e_2 := cell_later hBc c_e_2; have k_hx0 := cell_later hBc hx0; have k_hx1 := cell_later hBc hx1; have k_hx2 := cell_later hBc hx2; have k_ht0 := cell_later hBc ht0; have k_c_p_0 := cell_later hBc c_p_0; have k_c_p_1 := cell_later hBc c_p_1; have k_c_p_2 := cell_later hBc c_p_2)
                  | fail)
                go_wp2
                go_roundw
                case rel => exact ⟨j + 1, by omega, by go_num, by rw [drop_take_succ HX.out, drop_take_succ HTK.out, ← List.append_assoc, ← List.append_assoc]; exact HT.out, hBc⟩
                case measure => simp [intOf]; omega
              · have hend : k + 1 + j = ps.length := by omega
                obtain ⟨M, hM⟩ : ∃ M, Hid (k + 1 + j = M) := ⟨_, Lib.hid rfl⟩
                have hT2 := HT.out
                rw [hM.out] at hT2
                clear HT
                have HT := Lib.hid hT2
                clear hT2
                obtain ⟨pv, cV, rfl⟩ := own_shape2 HT.out.P
                obtain ⟨pu, cU, rfl⟩ := own_shape2 HT.out.T
                have k_c_e_0 := cell_later hBc c_e_0
                have k_f_e_0 := frozen_later hBc c_e_0 f_e_0
                have k_c_r_0 := cell_later hBc c_r_0
                have k_f_r_0 := frozen_later hBc c_r_0 f_r_0
                have k_c_e_1 := cell_later hBc c_e_1
                have k_f_e_1 := frozen_later hBc c_e_1 f_e_1
                have k_c_r_1 := cell_later hBc c_r_1
                have k_f_r_1 := frozen_later hBc c_r_1 f_r_1
                have k_c_e_2 := cell_later hBc c_e_2
                have k_f_e_2 := frozen_later hBc c_e_2 f_e_2
                have k_c_r_2 := cell_later hBc c_r_2
                have k_f_r_2 := frozen_later hBc c_r_2 f_r_2
                have k_c_e_3 := cell_later hBc c_e_3
                have k_f_e_3 := frozen_later hBc c_e_3 f_e_3
                have k_c_r_3 := cell_later hBc c_r_3
                have k_f_r_3 := frozen_later hBc c_r_3 f_r_3
                have k_c_e_4 := cell_later hBc c_e_4
                have k_f_e_4 := frozen_later hBc c_e_4 f_e_4
                have k_c_r_4 := cell_later hBc c_r_4
                have k_f_r_4 := frozen_later hBc c_r_4 f_r_4
                have k_c_e_5 := cell_later hBc c_e_5
                have k_f_e_5 := frozen_later hBc c_e_5 f_e_5
                have k_c_r_5 := cell_later hBc c_r_5
                have k_f_r_5 := frozen_later hBc c_r_5 f_r_5
                have k_c_e_6 := cell_later hBc c_e_6
                have k_f_e_6 := frozen_later hBc c_e_6 f_e_6
                have k_c_r_6 := cell_later hBc c_r_6
                have k_f_r_6 := frozen_later hBc c_r_6 f_r_6
                have k_c_e_7 := cell_later hBc c_e_7
                have k_f_e_7 := frozen_later hBc c_e_7 f_e_7
                have k_c_r_7 := cell_later hBc c_r_7
                have k_f_r_7 := frozen_later hBc c_r_7 f_r_7
                have k_c_e_8 := cell_later hBc c_e_8
                have k_f_e_8 := frozen_later hBc c_e_8 f_e_8
                have k_c_r_8 := cell_later hBc c_r_8
                have k_f_r_8 := frozen_later hBc c_r_8 f_r_8
                go_upto_region 19 with fail
                have n_e_0 : ((wr.setCell ⟨w.heap.size, 1, none⟩ (.slice pv M cV)).setCell ⟨w.heap.size, 2, none⟩ (.slice pu M cU)).cell? ⟨w.heap.size, 0, none⟩ = some (.int .i64 k0) := set_beside (by decide) (set_beside (by decide) k_c_e_0)
                have n_r_0 : ((wr.setCell ⟨w.heap.size, 1, none⟩ (.slice pv M cV)).setCell ⟨w.heap.size, 2, none⟩ (.slice pu M cU)).cell? ⟨w.heap.size + 1 + 1, 0, none⟩ = some (.int .i64 0) := set_far (by omega) (set_far (by omega) k_c_r_0)
                have nf_r_0 : ((wr.setCell ⟨w.heap.size, 1, none⟩ (.slice pv M cV)).setCell ⟨w.heap.size, 2, none⟩ (.slice pu M cU)).frozen? ⟨w.heap.size + 1 + 1, 0, none⟩ = false := set_frozen (set_frozen k_f_r_0)
                have n_e_1 : ((wr.setCell ⟨w.heap.size, 1, none⟩ (.slice pv M cV)).setCell ⟨w.heap.size, 2, none⟩ (.slice pu M cU)).cell? ⟨w.heap.size, 1, none⟩ = some (.slice pv M cV) := set_beside (by decide) (set_same (held_of k_c_e_1))
                have n_r_1 : ((wr.setCell ⟨w.heap.size, 1, none⟩ (.slice pv M cV)).setCell ⟨w.heap.size, 2, none⟩ (.slice pu M cU)).cell? ⟨w.heap.size + 1 + 1, 1, none⟩ = some (.slice none 0 0) := set_far (by omega) (set_far (by omega) k_c_r_1)
                have nf_r_1 : ((wr.setCell ⟨w.heap.size, 1, none⟩ (.slice pv M cV)).setCell ⟨w.heap.size, 2, none⟩ (.slice pu M cU)).frozen? ⟨w.heap.size + 1 + 1, 1, none⟩ = false := set_frozen (set_frozen k_f_r_1)
                have n_e_2 : ((wr.setCell ⟨w.heap.size, 1, none⟩ (.slice pv M cV)).setCell ⟨w.heap.size, 2, none⟩ (.slice pu M cU)).cell? ⟨w.heap.size, 2, none⟩ = some (.slice pu M cU) := set_same (set_held (held_of k_c_e_2))
                have n_r_2 : ((wr.setCell ⟨w.heap.size, 1, none⟩ (.slice pv M cV)).setCell ⟨w.heap.size, 2, none⟩ (.slice pu M cU)).cell? ⟨w.heap.size + 1 + 1, 2, none⟩ = some (.slice none 0 0) := set_far (by omega) (set_far (by omega) k_c_r_2)
                have nf_r_2 : ((wr.setCell ⟨w.heap.size, 1, none⟩ (.slice pv M cV)).setCell ⟨w.heap.size, 2, none⟩ (.slice pu M cU)).frozen? ⟨w.heap.size + 1 + 1, 2, none⟩ = false := set_frozen (set_frozen k_f_r_2)
                have n_e_3 : ((wr.setCell ⟨w.heap.size, 1, none⟩ (.slice pv M cV)).setCell ⟨w.heap.size, 2, none⟩ (.slice pu M cU)).cell? ⟨w.heap.size, 3, none⟩ = some (.int .i64 b) := set_beside (by decide) (set_beside (by decide) k_c_e_3)
                have n_r_3 : ((wr.setCell ⟨w.heap.size, 1, none⟩ (.slice pv M cV)).setCell ⟨w.heap.size, 2, none⟩ (.slice pu M cU)).cell? ⟨w.heap.size + 1 + 1, 3, none⟩ = some (.int .i64 0) := set_far (by omega) (set_far (by omega) k_c_r_3)
                have nf_r_3 : ((wr.setCell ⟨w.heap.size, 1, none⟩ (.slice pv M cV)).setCell ⟨w.heap.size, 2, none⟩ (.slice pu M cU)).frozen? ⟨w.heap.size + 1 + 1, 3, none⟩ = false := set_frozen (set_frozen k_f_r_3)
                have n_e_4 : ((wr.setCell ⟨w.heap.size, 1, none⟩ (.slice pv M cV)).setCell ⟨w.heap.size, 2, none⟩ (.slice pu M cU)).cell? ⟨w.heap.size, 4, none⟩ = some (.int .i64 d) := set_beside (by decide) (set_beside (by decide) k_c_e_4)
                have n_r_4 : ((wr.setCell ⟨w.heap.size, 1, none⟩ (.slice pv M cV)).setCell ⟨w.heap.size, 2, none⟩ (.slice pu M cU)).cell? ⟨w.heap.size + 1 + 1, 4, none⟩ = some (.int .i64 0) := set_far (by omega) (set_far (by omega) k_c_r_4)
                have nf_r_4 : ((wr.setCell ⟨w.heap.size, 1, none⟩ (.slice pv M cV)).setCell ⟨w.heap.size, 2, none⟩ (.slice pu M cU)).frozen? ⟨w.heap.size + 1 + 1, 4, none⟩ = false := set_frozen (set_frozen k_f_r_4)
                have n_e_5 : ((wr.setCell ⟨w.heap.size, 1, none⟩ (.slice pv M cV)).setCell ⟨w.heap.size, 2, none⟩ (.slice pu M cU)).cell? ⟨w.heap.size, 5, none⟩ = some (.int .i64 n) := set_beside (by decide) (set_beside (by decide) k_c_e_5)
                have n_r_5 : ((wr.setCell ⟨w.heap.size, 1, none⟩ (.slice pv M cV)).setCell ⟨w.heap.size, 2, none⟩ (.slice pu M cU)).cell? ⟨w.heap.size + 1 + 1, 5, none⟩ = some (.int .i64 0) := set_far (by omega) (set_far (by omega) k_c_r_5)
                have nf_r_5 : ((wr.setCell ⟨w.heap.size, 1, none⟩ (.slice pv M cV)).setCell ⟨w.heap.size, 2, none⟩ (.slice pu M cU)).frozen? ⟨w.heap.size + 1 + 1, 5, none⟩ = false := set_frozen (set_frozen k_f_r_5)
                have n_e_6 : ((wr.setCell ⟨w.heap.size, 1, none⟩ (.slice pv M cV)).setCell ⟨w.heap.size, 2, none⟩ (.slice pu M cU)).cell? ⟨w.heap.size, 6, none⟩ = some (.int .i64 e0) := set_beside (by decide) (set_beside (by decide) k_c_e_6)
                have n_r_6 : ((wr.setCell ⟨w.heap.size, 1, none⟩ (.slice pv M cV)).setCell ⟨w.heap.size, 2, none⟩ (.slice pu M cU)).cell? ⟨w.heap.size + 1 + 1, 6, none⟩ = some (.int .i64 0) := set_far (by omega) (set_far (by omega) k_c_r_6)
                have nf_r_6 : ((wr.setCell ⟨w.heap.size, 1, none⟩ (.slice pv M cV)).setCell ⟨w.heap.size, 2, none⟩ (.slice pu M cU)).frozen? ⟨w.heap.size + 1 + 1, 6, none⟩ = false := set_frozen (set_frozen k_f_r_6)
                have n_e_7 : ((wr.setCell ⟨w.heap.size, 1, none⟩ (.slice pv M cV)).setCell ⟨w.heap.size, 2, none⟩ (.slice pu M cU)).cell? ⟨w.heap.size, 7, none⟩ = some (.slice Pms ms.length Cms) := set_beside (by decide) (set_beside (by decide) k_c_e_7)
                have n_r_7 : ((wr.setCell ⟨w.heap.size, 1, none⟩ (.slice pv M cV)).setCell ⟨w.heap.size, 2, none⟩ (.slice pu M cU)).cell? ⟨w.heap.size + 1 + 1, 7, none⟩ = some (.slice none 0 0) := set_far (by omega) (set_far (by omega) k_c_r_7)
                have nf_r_7 : ((wr.setCell ⟨w.heap.size, 1, none⟩ (.slice pv M cV)).setCell ⟨w.heap.size, 2, none⟩ (.slice pu M cU)).frozen? ⟨w.heap.size + 1 + 1, 7, none⟩ = false := set_frozen (set_frozen k_f_r_7)
                have n_e_8 : ((wr.setCell ⟨w.heap.size, 1, none⟩ (.slice pv M cV)).setCell ⟨w.heap.size, 2, none⟩ (.slice pu M cU)).cell? ⟨w.heap.size, 8, none⟩ = some (.string str) := set_beside (by decide) (set_beside (by decide) k_c_e_8)
                have n_r_8 : ((wr.setCell ⟨w.heap.size, 1, none⟩ (.slice pv M cV)).setCell ⟨w.heap.size, 2, none⟩ (.slice pu M cU)).cell? ⟨w.heap.size + 1 + 1, 8, none⟩ = some (.string ⟨#[]⟩) := set_far (by omega) (set_far (by omega) k_c_r_8)
                have nf_r_8 : ((wr.setCell ⟨w.heap.size, 1, none⟩ (.slice pv M cV)).setCell ⟨w.heap.size, 2, none⟩ (.slice pu M cU)).frozen? ⟨w.heap.size + 1 + 1, 8, none⟩ = false := set_frozen (set_frozen k_f_r_8)
                have e1 : ps.take k ++ [(p0, p1, p2)] ++ (ps.drop (k + 1)).take j = (Evt.putE (p0, p1, p2) true ⟨k0, ps, ts, b, d, n, e0, ms, str⟩).ps := by rw [show (ps.drop (k + 1)).take j = ps.drop (k + 1) from List.take_of_length_le (by rw [List.length_drop]; omega)]; exact (HQ.out).1
                have hlT : ts.length = ps.length := hl.out
                have e2 : ts.take k ++ [(true || tk)] ++ (ts.drop (k + 1)).take j = (Evt.putE (p0, p1, p2) true ⟨k0, ps, ts, b, d, n, e0, ms, str⟩).ts := by rw [show (ts.drop (k + 1)).take j = ts.drop (k + 1) from List.take_of_length_le (by rw [List.length_drop]; omega)]; exact (HQ.out).2
                have HN1 : (ps.take k ++ [(p0, p1, p2)] ++ (ps.drop (k + 1)).take j).length = M := by rw [← hM.out]; rw [List.length_append, List.length_append, List.length_take, List.length_take, List.length_drop, List.length_singleton]; omega
                have HN2 : (ts.take k ++ [(true || tk)] ++ (ts.drop (k + 1)).take j).length = M := by rw [← hM.out]; rw [List.length_append, List.length_append, List.length_take, List.length_take, List.length_drop, List.length_singleton]; omega
                have HO1 := own_row HT.out.P
                have HO2 := own_row HT.out.T
                have S1 := ((row_sl lenP HN1.symm (by have := hM.out; omega) HT.out.P).set (o := 1) (x := .slice pv M cV) HO1 z_e).set (o := 2) (x := .slice pu M cU) HO1 z_e
                have S2 := ((row_sl lenB HN2.symm (by have := hM.out; omega) HT.out.T).set (o := 1) (x := .slice pv M cV) HO2 z_e).set (o := 2) (x := .slice pu M cU) HO2 z_e
                rw [e1] at S1
                rw [e2] at S2
                have HS1 := Lib.hid S1
                have HS2 := Lib.hid S2
                have HOA := Lib.hid HO1
                have HOB := Lib.hid HO2
                have hB9 : Below w.heap.size w ((wr.setCell ⟨w.heap.size, 1, none⟩ (.slice pv M cV)).setCell ⟨w.heap.size, 2, none⟩ (.slice pu M cU)) := set1_below (set1_below (below_two hB1 hBc) (Nat.le_refl _)) (Nat.le_refl _)
                clear e1 e2 HN1 HN2 HO1 HO2 S1 S2 k_c_e_0 k_f_e_0 k_c_r_0 k_f_r_0 c_e_0 f_e_0 c_r_0 f_r_0 k_c_e_1 k_f_e_1 k_c_r_1 k_f_r_1 c_e_1 f_e_1 c_r_1 f_r_1 k_c_e_2 k_f_e_2 k_c_r_2 k_f_r_2 c_e_2 f_e_2 c_r_2 f_r_2 k_c_e_3 k_f_e_3 k_c_r_3 k_f_r_3 c_e_3 f_e_3 c_r_3 f_r_3 k_c_e_4 k_f_e_4 k_c_r_4 k_f_r_4 c_e_4 f_e_4 c_r_4 f_r_4 k_c_e_5 k_f_e_5 k_c_r_5 k_f_r_5 c_e_5 f_e_5 c_r_5 f_r_5 k_c_e_6 k_f_e_6 k_c_r_6 k_f_r_6 c_e_6 f_e_6 c_r_6 f_r_6 k_c_e_7 k_f_e_7 k_c_r_7 k_f_r_7 c_e_7 f_e_7 c_r_7 f_r_7 k_c_e_8 k_f_e_8 k_c_r_8 k_f_r_8 c_e_8 f_e_8 c_r_8 f_r_8
                generalize ((wr.setCell ⟨w.heap.size, 1, none⟩ (.slice pv M cV)).setCell ⟨w.heap.size, 2, none⟩ (.slice pu M cU)) = w7 at *
                obtain ⟨m0, m1, m2, m3, m4, m5, m6, m7, m8⟩ := put9_of (x0 := .int .i64 k0) (x1 := .slice pv M cV) (x2 := .slice pu M cU) (x3 := .int .i64 b) (x4 := .int .i64 d) (x5 := .int .i64 n) (x6 := .int .i64 e0) (x7 := .slice Pms ms.length Cms) (x8 := .string str) n_r_0 n_r_1 n_r_2 n_r_3 n_r_4 n_r_5 n_r_6 n_r_7 n_r_8
                clear HT HQ hl hr hp
                try clear hlT
                try clear hend
                try clear hlt
                try clear hj
                try clear hBc
                try clear hsz
                try clear d3
                try clear d3n
                try clear hke
                try clear hk
                try clear d4
                try clear HV
                try clear HRX
                try clear HKY
                try clear HPI
                try clear hE
                try clear hltT
                try clear hltI
                try clear hltTI
                try clear HX
                try clear HTK
                try clear HB
                try clear n8
                go_wp2
                exact bodyPost_ret (v := .agg #[.int .i64 k0, .slice pv M cV, .slice pu M cU, .int .i64 b, .int .i64 d, .int .i64 n, .int .i64 e0, .slice Pms ms.length Cms, .string str]) (by simp [results, Tryd.results49, go_sem, m0, m1, m2, m3, m4, m5, m6, m7, m8]) rfl ⟨_, _, rfl, put9_sl HS1.out (HOA.out.mono (by omega)), put9_sl HS2.out (HOB.out.mono (by omega)), HOA.out.mono (by omega), HOB.out.mono (by omega), put9_below hB9 (by omega)⟩
    · have hke : k = ps.length := by omega
      have d3 : decide ((k : Int) < (ps.length : Int)) = false := decide_eq_false (by omega)
      have d3n : decide (k < ps.length) = false := decide_eq_false (by omega)
      have HQ := Lib.hid (Evt.putE_end (x := ⟨k0, ps, ts, b, d, n, e0, ms, str⟩) (p := (p0, p1, p2)) (t := t) hl.out HB.out hke)
      have HKE := Lib.hid hke
      clear hke
      have k_c_e_1 := cell_later hBc c_e_1
      have k_c_e_2 := cell_later hBc c_e_2
      have k_c_p_0 := cell_later hBc c_p_0
      have k_c_p_1 := cell_later hBc c_p_1
      have k_c_p_2 := cell_later hBc c_p_2
      go_wp2_with fail
      have g_k_c_e_1 := fun dd os => cell_regrown k_c_e_1 dd os
      have g_k_c_e_2 := fun dd os => cell_regrown k_c_e_2 dd os
      have g_k_c_p_0 := fun dd os => cell_regrown k_c_p_0 dd os
      have g_k_c_p_1 := fun dd os => cell_regrown k_c_p_1 dd os
      have g_k_c_p_2 := fun dd os => cell_regrown k_c_p_2 dd os
      refine wp_region_quiet_below (by kernel_rfl) (by kernel_rfl) ?_
      repeat (go_big_quiet_step (first | fail))
      refine wpQuiet_nil ?_
      intro _ hw'
      obtain ⟨⟨dq, osq⟩, hw''⟩ := hw'
      subst hw''
      replace k_c_e_1 := g_k_c_e_1 dq osq
      clear g_k_c_e_1
      replace k_c_e_2 := g_k_c_e_2 dq osq
      clear g_k_c_e_2
      replace k_c_p_0 := g_k_c_p_0 dq osq
      clear g_k_c_p_0
      replace k_c_p_1 := g_k_c_p_1 dq osq
      clear g_k_c_p_1
      replace k_c_p_2 := g_k_c_p_2 dq osq
      clear g_k_c_p_2
      have hb_w9 := below_regrown wr dq osq
      generalize Go.Sort.grow (redrawn wr dq) osq = w9 at *
      replace HT := Lib.hid (HT.out.later hb_w9)
      replace hBc := below_two hBc hb_w9
      replace hsz := hBc.size
      clear hb_w9
      go_wp2_with fail
      have g_k_c_e_1 := fun dd os => cell_regrown k_c_e_1 dd os
      have g_k_c_e_2 := fun dd os => cell_regrown k_c_e_2 dd os
      have g_k_c_p_0 := fun dd os => cell_regrown k_c_p_0 dd os
      have g_k_c_p_1 := fun dd os => cell_regrown k_c_p_1 dd os
      have g_k_c_p_2 := fun dd os => cell_regrown k_c_p_2 dd os
      refine wp_region_quiet_below (by kernel_rfl) (by kernel_rfl) ?_
      repeat (go_big_quiet_step (first | fail))
      refine wpQuiet_nil ?_
      intro _ hw'
      obtain ⟨⟨dq, osq⟩, hw''⟩ := hw'
      subst hw''
      replace k_c_e_1 := g_k_c_e_1 dq osq
      clear g_k_c_e_1
      replace k_c_e_2 := g_k_c_e_2 dq osq
      clear g_k_c_e_2
      replace k_c_p_0 := g_k_c_p_0 dq osq
      clear g_k_c_p_0
      replace k_c_p_1 := g_k_c_p_1 dq osq
      clear g_k_c_p_1
      replace k_c_p_2 := g_k_c_p_2 dq osq
      clear g_k_c_p_2
      have hb_w8 := below_regrown w9 dq osq
      generalize Go.Sort.grow (redrawn w9 dq) osq = w8 at *
      replace HT := Lib.hid (HT.out.later hb_w8)
      replace hBc := below_two hBc hb_w8
      replace hsz := hBc.size
      clear hb_w8
      go_wp2_with (first
        | (at_builtin; refine wpList_append_own_at _ rfl _ _ 22 rfl w1.heap.size 57 iP (.agg #[.int .i64 0, .int .i64 0, .int .i64 0]) 3 24 Tryd.underlying22 hiP hP0 hP1 hP2 rfl (by decide) _ _ _ rfl (HT.out.P.alloc _) ⟨w8.heap.size, 0, none⟩ 1 1 [.int .i64 p0, .int .i64 p1, .int .i64 p2] rfl rfl (cells3_new _ _ _ _ _ rfl) (one3 _ _ _) (by unfold maxLen; omega) (by omega) (by simp; omega) ?_; intro v' wp hown hgrow _ hob; have hBn := push_below HT.out.P hBc hsz hgrow; have HT := Lib.hid (HT.out.pushP hown hgrow hob); clear hown hgrow hob hBc; have hBc := hBn; clear hBn; replace hsz := hBc.size; clear k_c_e_1 k_c_e_2 k_c_p_0 k_c_p_1 k_c_p_2; have k_c_e_1 := cell_later hBc c_e_1; have k_c_e_2 := cell_later hBc c_e_2; have k_c_p_0 := cell_later hBc c_p_0; have k_c_p_1 := cell_later hBc c_p_1; have k_c_p_2 := cell_later hBc c_p_2)
        | (at_builtin; refine wpList_append_own_at _ rfl _ _ 23 rfl w1.heap.size 4 iB (.bool false) 1 1 Tryd.underlying23 hiB hB0_ hB1_ hB2_ rfl (by decide) _ _ _ rfl (HT.out.T.alloc _) ⟨wp.heap.size, 0, none⟩ 1 1 [.bool t] rfl rfl (cells1_new _ _ _ rfl) (one1 _) (by unfold maxLen; omega) (by omega) (by simp; omega) ?_; intro u' wt hown hgrow _ hob; have hBn := push_below HT.out.T hBc hsz hgrow; have HT := Lib.hid (HT.out.pushT hown hgrow hob); clear hown hgrow hob hBc; have hBc := hBn; clear hBn; replace hsz := hBc.size; clear k_c_e_1 k_c_e_2 k_c_p_0 k_c_p_1 k_c_p_2; have k_c_e_1 := cell_later hBc c_e_1; have k_c_e_2 := cell_later hBc c_e_2; have k_c_p_0 := cell_later hBc c_p_0; have k_c_p_1 := cell_later hBc c_p_1; have k_c_p_2 := cell_later hBc c_p_2)
        | fail)
      clear k_c_e_1 k_c_e_2 k_c_p_0 k_c_p_1 k_c_p_2 
      go_loopw [7, 8, 9] (fun v u i wr => PutBt ps ts (ps.take k ++ [(p0, p1, p2)]) (ts.take k ++ [t]) (k + 1) (k) w1 v u i wr) (fun _ _ i _ => ps.length - (intOf i).toNat)
      case atStart => exact ⟨0, by omega, by go_num, by simpa using HT.out, hBc⟩
      case round =>
        clear HT hBc hsz
        obtain ⟨j, hj, rfl, hT, hBc⟩ := hrel
        have HT := Lib.hid hT
        clear hT
        have hsz := hBc.size
        by_cases hlt : k + j < ps.length
        · have := HKE.out; omega
        · have hend : k + j = ps.length := by omega
          obtain ⟨M, hM⟩ : ∃ M, Hid (k + 1 + j = M) := ⟨_, Lib.hid rfl⟩
          have hT2 := HT.out
          rw [hM.out] at hT2
          clear HT
          have HT := Lib.hid hT2
          clear hT2
          obtain ⟨pv, cV, rfl⟩ := own_shape2 HT.out.P
          obtain ⟨pu, cU, rfl⟩ := own_shape2 HT.out.T
          have k_c_e_0 := cell_later hBc c_e_0
          have k_f_e_0 := frozen_later hBc c_e_0 f_e_0
          have k_c_r_0 := cell_later hBc c_r_0
          have k_f_r_0 := frozen_later hBc c_r_0 f_r_0
          have k_c_e_1 := cell_later hBc c_e_1
          have k_f_e_1 := frozen_later hBc c_e_1 f_e_1
          have k_c_r_1 := cell_later hBc c_r_1
          have k_f_r_1 := frozen_later hBc c_r_1 f_r_1
          have k_c_e_2 := cell_later hBc c_e_2
          have k_f_e_2 := frozen_later hBc c_e_2 f_e_2
          have k_c_r_2 := cell_later hBc c_r_2
          have k_f_r_2 := frozen_later hBc c_r_2 f_r_2
          have k_c_e_3 := cell_later hBc c_e_3
          have k_f_e_3 := frozen_later hBc c_e_3 f_e_3
          have k_c_r_3 := cell_later hBc c_r_3
          have k_f_r_3 := frozen_later hBc c_r_3 f_r_3
          have k_c_e_4 := cell_later hBc c_e_4
          have k_f_e_4 := frozen_later hBc c_e_4 f_e_4
          have k_c_r_4 := cell_later hBc c_r_4
          have k_f_r_4 := frozen_later hBc c_r_4 f_r_4
          have k_c_e_5 := cell_later hBc c_e_5
          have k_f_e_5 := frozen_later hBc c_e_5 f_e_5
          have k_c_r_5 := cell_later hBc c_r_5
          have k_f_r_5 := frozen_later hBc c_r_5 f_r_5
          have k_c_e_6 := cell_later hBc c_e_6
          have k_f_e_6 := frozen_later hBc c_e_6 f_e_6
          have k_c_r_6 := cell_later hBc c_r_6
          have k_f_r_6 := frozen_later hBc c_r_6 f_r_6
          have k_c_e_7 := cell_later hBc c_e_7
          have k_f_e_7 := frozen_later hBc c_e_7 f_e_7
          have k_c_r_7 := cell_later hBc c_r_7
          have k_f_r_7 := frozen_later hBc c_r_7 f_r_7
          have k_c_e_8 := cell_later hBc c_e_8
          have k_f_e_8 := frozen_later hBc c_e_8 f_e_8
          have k_c_r_8 := cell_later hBc c_r_8
          have k_f_r_8 := frozen_later hBc c_r_8 f_r_8
          go_upto_region 19 with fail
          have n_e_0 : ((wr.setCell ⟨w.heap.size, 1, none⟩ (.slice pv M cV)).setCell ⟨w.heap.size, 2, none⟩ (.slice pu M cU)).cell? ⟨w.heap.size, 0, none⟩ = some (.int .i64 k0) := set_beside (by decide) (set_beside (by decide) k_c_e_0)
          have n_r_0 : ((wr.setCell ⟨w.heap.size, 1, none⟩ (.slice pv M cV)).setCell ⟨w.heap.size, 2, none⟩ (.slice pu M cU)).cell? ⟨w.heap.size + 1 + 1, 0, none⟩ = some (.int .i64 0) := set_far (by omega) (set_far (by omega) k_c_r_0)
          have nf_r_0 : ((wr.setCell ⟨w.heap.size, 1, none⟩ (.slice pv M cV)).setCell ⟨w.heap.size, 2, none⟩ (.slice pu M cU)).frozen? ⟨w.heap.size + 1 + 1, 0, none⟩ = false := set_frozen (set_frozen k_f_r_0)
          have n_e_1 : ((wr.setCell ⟨w.heap.size, 1, none⟩ (.slice pv M cV)).setCell ⟨w.heap.size, 2, none⟩ (.slice pu M cU)).cell? ⟨w.heap.size, 1, none⟩ = some (.slice pv M cV) := set_beside (by decide) (set_same (held_of k_c_e_1))
          have n_r_1 : ((wr.setCell ⟨w.heap.size, 1, none⟩ (.slice pv M cV)).setCell ⟨w.heap.size, 2, none⟩ (.slice pu M cU)).cell? ⟨w.heap.size + 1 + 1, 1, none⟩ = some (.slice none 0 0) := set_far (by omega) (set_far (by omega) k_c_r_1)
          have nf_r_1 : ((wr.setCell ⟨w.heap.size, 1, none⟩ (.slice pv M cV)).setCell ⟨w.heap.size, 2, none⟩ (.slice pu M cU)).frozen? ⟨w.heap.size + 1 + 1, 1, none⟩ = false := set_frozen (set_frozen k_f_r_1)
          have n_e_2 : ((wr.setCell ⟨w.heap.size, 1, none⟩ (.slice pv M cV)).setCell ⟨w.heap.size, 2, none⟩ (.slice pu M cU)).cell? ⟨w.heap.size, 2, none⟩ = some (.slice pu M cU) := set_same (set_held (held_of k_c_e_2))
          have n_r_2 : ((wr.setCell ⟨w.heap.size, 1, none⟩ (.slice pv M cV)).setCell ⟨w.heap.size, 2, none⟩ (.slice pu M cU)).cell? ⟨w.heap.size + 1 + 1, 2, none⟩ = some (.slice none 0 0) := set_far (by omega) (set_far (by omega) k_c_r_2)
          have nf_r_2 : ((wr.setCell ⟨w.heap.size, 1, none⟩ (.slice pv M cV)).setCell ⟨w.heap.size, 2, none⟩ (.slice pu M cU)).frozen? ⟨w.heap.size + 1 + 1, 2, none⟩ = false := set_frozen (set_frozen k_f_r_2)
          have n_e_3 : ((wr.setCell ⟨w.heap.size, 1, none⟩ (.slice pv M cV)).setCell ⟨w.heap.size, 2, none⟩ (.slice pu M cU)).cell? ⟨w.heap.size, 3, none⟩ = some (.int .i64 b) := set_beside (by decide) (set_beside (by decide) k_c_e_3)
          have n_r_3 : ((wr.setCell ⟨w.heap.size, 1, none⟩ (.slice pv M cV)).setCell ⟨w.heap.size, 2, none⟩ (.slice pu M cU)).cell? ⟨w.heap.size + 1 + 1, 3, none⟩ = some (.int .i64 0) := set_far (by omega) (set_far (by omega) k_c_r_3)
          have nf_r_3 : ((wr.setCell ⟨w.heap.size, 1, none⟩ (.slice pv M cV)).setCell ⟨w.heap.size, 2, none⟩ (.slice pu M cU)).frozen? ⟨w.heap.size + 1 + 1, 3, none⟩ = false := set_frozen (set_frozen k_f_r_3)
          have n_e_4 : ((wr.setCell ⟨w.heap.size, 1, none⟩ (.slice pv M cV)).setCell ⟨w.heap.size, 2, none⟩ (.slice pu M cU)).cell? ⟨w.heap.size, 4, none⟩ = some (.int .i64 d) := set_beside (by decide) (set_beside (by decide) k_c_e_4)
          have n_r_4 : ((wr.setCell ⟨w.heap.size, 1, none⟩ (.slice pv M cV)).setCell ⟨w.heap.size, 2, none⟩ (.slice pu M cU)).cell? ⟨w.heap.size + 1 + 1, 4, none⟩ = some (.int .i64 0) := set_far (by omega) (set_far (by omega) k_c_r_4)
          have nf_r_4 : ((wr.setCell ⟨w.heap.size, 1, none⟩ (.slice pv M cV)).setCell ⟨w.heap.size, 2, none⟩ (.slice pu M cU)).frozen? ⟨w.heap.size + 1 + 1, 4, none⟩ = false := set_frozen (set_frozen k_f_r_4)
          have n_e_5 : ((wr.setCell ⟨w.heap.size, 1, none⟩ (.slice pv M cV)).setCell ⟨w.heap.size, 2, none⟩ (.slice pu M cU)).cell? ⟨w.heap.size, 5, none⟩ = some (.int .i64 n) := set_beside (by decide) (set_beside (by decide) k_c_e_5)
          have n_r_5 : ((wr.setCell ⟨w.heap.size, 1, none⟩ (.slice pv M cV)).setCell ⟨w.heap.size, 2, none⟩ (.slice pu M cU)).cell? ⟨w.heap.size + 1 + 1, 5, none⟩ = some (.int .i64 0) := set_far (by omega) (set_far (by omega) k_c_r_5)
          have nf_r_5 : ((wr.setCell ⟨w.heap.size, 1, none⟩ (.slice pv M cV)).setCell ⟨w.heap.size, 2, none⟩ (.slice pu M cU)).frozen? ⟨w.heap.size + 1 + 1, 5, none⟩ = false := set_frozen (set_frozen k_f_r_5)
          have n_e_6 : ((wr.setCell ⟨w.heap.size, 1, none⟩ (.slice pv M cV)).setCell ⟨w.heap.size, 2, none⟩ (.slice pu M cU)).cell? ⟨w.heap.size, 6, none⟩ = some (.int .i64 e0) := set_beside (by decide) (set_beside (by decide) k_c_e_6)
          have n_r_6 : ((wr.setCell ⟨w.heap.size, 1, none⟩ (.slice pv M cV)).setCell ⟨w.heap.size, 2, none⟩ (.slice pu M cU)).cell? ⟨w.heap.size + 1 + 1, 6, none⟩ = some (.int .i64 0) := set_far (by omega) (set_far (by omega) k_c_r_6)
          have nf_r_6 : ((wr.setCell ⟨w.heap.size, 1, none⟩ (.slice pv M cV)).setCell ⟨w.heap.size, 2, none⟩ (.slice pu M cU)).frozen? ⟨w.heap.size + 1 + 1, 6, none⟩ = false := set_frozen (set_frozen k_f_r_6)
          have n_e_7 : ((wr.setCell ⟨w.heap.size, 1, none⟩ (.slice pv M cV)).setCell ⟨w.heap.size, 2, none⟩ (.slice pu M cU)).cell? ⟨w.heap.size, 7, none⟩ = some (.slice Pms ms.length Cms) := set_beside (by decide) (set_beside (by decide) k_c_e_7)
          have n_r_7 : ((wr.setCell ⟨w.heap.size, 1, none⟩ (.slice pv M cV)).setCell ⟨w.heap.size, 2, none⟩ (.slice pu M cU)).cell? ⟨w.heap.size + 1 + 1, 7, none⟩ = some (.slice none 0 0) := set_far (by omega) (set_far (by omega) k_c_r_7)
          have nf_r_7 : ((wr.setCell ⟨w.heap.size, 1, none⟩ (.slice pv M cV)).setCell ⟨w.heap.size, 2, none⟩ (.slice pu M cU)).frozen? ⟨w.heap.size + 1 + 1, 7, none⟩ = false := set_frozen (set_frozen k_f_r_7)
          have n_e_8 : ((wr.setCell ⟨w.heap.size, 1, none⟩ (.slice pv M cV)).setCell ⟨w.heap.size, 2, none⟩ (.slice pu M cU)).cell? ⟨w.heap.size, 8, none⟩ = some (.string str) := set_beside (by decide) (set_beside (by decide) k_c_e_8)
          have n_r_8 : ((wr.setCell ⟨w.heap.size, 1, none⟩ (.slice pv M cV)).setCell ⟨w.heap.size, 2, none⟩ (.slice pu M cU)).cell? ⟨w.heap.size + 1 + 1, 8, none⟩ = some (.string ⟨#[]⟩) := set_far (by omega) (set_far (by omega) k_c_r_8)
          have nf_r_8 : ((wr.setCell ⟨w.heap.size, 1, none⟩ (.slice pv M cV)).setCell ⟨w.heap.size, 2, none⟩ (.slice pu M cU)).frozen? ⟨w.heap.size + 1 + 1, 8, none⟩ = false := set_frozen (set_frozen k_f_r_8)
          have e1 : ps.take k ++ [(p0, p1, p2)] ++ (ps.drop (k)).take j = (Evt.putE (p0, p1, p2) t ⟨k0, ps, ts, b, d, n, e0, ms, str⟩).ps := by rw [show (ps.drop (k)).take j = ps.drop (k) from List.take_of_length_le (by rw [List.length_drop]; omega)]; exact (HQ.out).1
          have hlT : ts.length = ps.length := hl.out
          have e2 : ts.take k ++ [t] ++ (ts.drop (k)).take j = (Evt.putE (p0, p1, p2) t ⟨k0, ps, ts, b, d, n, e0, ms, str⟩).ts := by rw [show (ts.drop (k)).take j = ts.drop (k) from List.take_of_length_le (by rw [List.length_drop]; omega)]; exact (HQ.out).2
          have HN1 : (ps.take k ++ [(p0, p1, p2)] ++ (ps.drop (k)).take j).length = M := by rw [← hM.out]; rw [List.length_append, List.length_append, List.length_take, List.length_take, List.length_drop, List.length_singleton]; omega
          have HN2 : (ts.take k ++ [t] ++ (ts.drop (k)).take j).length = M := by rw [← hM.out]; rw [List.length_append, List.length_append, List.length_take, List.length_take, List.length_drop, List.length_singleton]; omega
          have HO1 := own_row HT.out.P
          have HO2 := own_row HT.out.T
          have S1 := ((row_sl lenP HN1.symm (by have := hM.out; omega) HT.out.P).set (o := 1) (x := .slice pv M cV) HO1 z_e).set (o := 2) (x := .slice pu M cU) HO1 z_e
          have S2 := ((row_sl lenB HN2.symm (by have := hM.out; omega) HT.out.T).set (o := 1) (x := .slice pv M cV) HO2 z_e).set (o := 2) (x := .slice pu M cU) HO2 z_e
          rw [e1] at S1
          rw [e2] at S2
          have HS1 := Lib.hid S1
          have HS2 := Lib.hid S2
          have HOA := Lib.hid HO1
          have HOB := Lib.hid HO2
          have hB9 : Below w.heap.size w ((wr.setCell ⟨w.heap.size, 1, none⟩ (.slice pv M cV)).setCell ⟨w.heap.size, 2, none⟩ (.slice pu M cU)) := set1_below (set1_below (below_two hB1 hBc) (Nat.le_refl _)) (Nat.le_refl _)
          clear e1 e2 HN1 HN2 HO1 HO2 S1 S2 k_c_e_0 k_f_e_0 k_c_r_0 k_f_r_0 c_e_0 f_e_0 c_r_0 f_r_0 k_c_e_1 k_f_e_1 k_c_r_1 k_f_r_1 c_e_1 f_e_1 c_r_1 f_r_1 k_c_e_2 k_f_e_2 k_c_r_2 k_f_r_2 c_e_2 f_e_2 c_r_2 f_r_2 k_c_e_3 k_f_e_3 k_c_r_3 k_f_r_3 c_e_3 f_e_3 c_r_3 f_r_3 k_c_e_4 k_f_e_4 k_c_r_4 k_f_r_4 c_e_4 f_e_4 c_r_4 f_r_4 k_c_e_5 k_f_e_5 k_c_r_5 k_f_r_5 c_e_5 f_e_5 c_r_5 f_r_5 k_c_e_6 k_f_e_6 k_c_r_6 k_f_r_6 c_e_6 f_e_6 c_r_6 f_r_6 k_c_e_7 k_f_e_7 k_c_r_7 k_f_r_7 c_e_7 f_e_7 c_r_7 f_r_7 k_c_e_8 k_f_e_8 k_c_r_8 k_f_r_8 c_e_8 f_e_8 c_r_8 f_r_8
          generalize ((wr.setCell ⟨w.heap.size, 1, none⟩ (.slice pv M cV)).setCell ⟨w.heap.size, 2, none⟩ (.slice pu M cU)) = w7 at *
          obtain ⟨m0, m1, m2, m3, m4, m5, m6, m7, m8⟩ := put9_of (x0 := .int .i64 k0) (x1 := .slice pv M cV) (x2 := .slice pu M cU) (x3 := .int .i64 b) (x4 := .int .i64 d) (x5 := .int .i64 n) (x6 := .int .i64 e0) (x7 := .slice Pms ms.length Cms) (x8 := .string str) n_r_0 n_r_1 n_r_2 n_r_3 n_r_4 n_r_5 n_r_6 n_r_7 n_r_8
          clear HT HQ hl hr hp
          try clear hlT
          try clear hend
          try clear hlt
          try clear hj
          try clear hBc
          try clear hsz
          try clear d3
          try clear d3n
          try clear hke
          try clear hk
          try clear d4
          try clear HV
          try clear HRX
          try clear HKY
          try clear HPI
          try clear hE
          try clear hltT
          try clear hltI
          try clear hltTI
          try clear HX
          try clear HTK
          try clear HB
          try clear n8
          go_wp2
          exact bodyPost_ret (v := .agg #[.int .i64 k0, .slice pv M cV, .slice pu M cU, .int .i64 b, .int .i64 d, .int .i64 n, .int .i64 e0, .slice Pms ms.length Cms, .string str]) (by simp [results, Tryd.results49, go_sem, m0, m1, m2, m3, m4, m5, m6, m7, m8]) rfl ⟨_, _, rfl, put9_sl HS1.out (HOA.out.mono (by omega)), put9_sl HS2.out (HOB.out.mono (by omega)), HOA.out.mono (by omega), HOB.out.mono (by omega), put9_below hB9 (by omega)⟩
end Go.Proofs.YtnfnonlbokddfaaDoor
