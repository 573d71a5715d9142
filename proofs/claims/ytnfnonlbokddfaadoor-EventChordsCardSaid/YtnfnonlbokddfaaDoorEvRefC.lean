/-
  The contracts of the reference's has and Chord.
-/
import Derived.Test.YtnfnonlbokddfaaDoorEvRefP
import Derived.Test.YtnfnonlbokddfaaDoorEvPut
import Derived.Test.YtnfnonlbokddfaaDoorEvRefR
import Derived.Test.YtnfnonlbokddfaaDoorEvJ
import Derived.Test.YtnfnonlbokddfaaDoorEvQ
import Derived.Maps.AppendAt
import Derived.Deep.CutBlock
import Derived.Deep.DeepCutAuto
import Derived.StillTailTactics
namespace Go.Proofs.YtnfnonlbokddfaaDoor
open Go.RowKit
open Evt (P3 Ev)

theorem has_cont (l : List Int) (m : Int) : l.contains m = !(l.all fun x => !(x == m)) := by
  induction l with
  | nil => rfl
  | cons a l ih =>
    rw [List.contains_cons, ih, List.all_cons, Bool.not_and, Bool.not_not]
    congr 1
    exact Bool.beq_comm
theorem has_dec (l : List Int) (m : Int) : decide (m ∈ l) = !(l.all fun x => !(x == m)) := by rw [← has_cont, Bool.eq_iff_iff]; simp
set_option maxRecDepth 100000 in
set_option maxHeartbeats 4000000 in
theorem has_any (v : Value) (l : List Int) (m : Int) (w : World) (h : Ints w v l) :
    Calls Tryd.prog 50 #[v, .int .i64 m] w fun ed w' => ed = .returned (.bool (l.contains m)) ∧ Below w.heap.size w w' := by
  have HC := Lib.hid h
  obtain ⟨p0, c0, rfl, hl0⟩ := sl_shape h
  clear h
  go_enter Tryd.func50, Tryd.ntmps50
  go_wp2
  go_loopw [5] (fun i wr => ∃ k : Nat, k ≤ l.length ∧ i = .int .i64 (k : Int) ∧ (l.take k).all (fun x => !(x == m)) = true ∧ Below w.heap.size w wr) (fun i _ => l.length - (intOf i).toNat)
  case atStart => exact ⟨0, Nat.zero_le _, rfl, rfl, Below.refl _ _⟩
  case round =>
    obtain ⟨k, hk, rfl, he, hB⟩ := hrel
    have HE := Lib.hid he
    clear he
    by_cases hlt : k < l.length
    · obtain ⟨x, hx⟩ : ∃ x, l[k]? = some x := ⟨_, List.getElem?_eq_getElem hlt⟩
      obtain ⟨b1, o1, e1, hcx⟩ := ints_at (HC.out.later hB) hx
      subst e1
      have HX := Lib.hid hx
      have hlt' : (k : Int) < (l.length : Int) := by omega
      clear hx
      cases hq : (x == m)
      · have HQ := Lib.hid hq
        go_wp2
        go_roundw
        case rel => exact ⟨k + 1, by omega, by go_num, Evt.all_take HX.out HE.out (by rw [HQ.out]; rfl), hB⟩
        case measure => simp [intOf]; omega
      · have HQ := Lib.hid hq
        go_wp2
        go_ret
        exact ⟨ret_bool (by first | rw [has_cont, Evt.all_not HX.out (by rw [HQ.out]; rfl)]; rfl | rw [has_dec, Evt.all_not HX.out (by rw [HQ.out]; rfl)]; rfl), hB⟩
    · obtain rfl : k = l.length := by omega
      have hge : ¬ (l.length : Int) < (l.length : Int) := by omega
      go_wp2
      go_ret
      exact ⟨ret_bool (by have h1 := HE.out; rw [List.take_length] at h1; first | (rw [has_dec, h1]; rfl) | (rw [has_cont, h1]; rfl)), hB⟩
theorem has_is {l : List Int} {m : Int} {q : Bool} (hq : l.contains m = q) (v : Value) (w : World) (h : Ints w v l) : Calls Tryd.prog 50 #[v, .int .i64 m] w fun ed w' => ed = .returned (.bool q) ∧ Below w.heap.size w w' := by subst hq; exact has_any v l m w h
/-- put, as it is used. -/
theorem put_is {P : List Evt.PT} {x : Ev} {s : ByteArray} {p : P3} {t : Bool} {kk : Int} (hk : kk = if P = [] then 0 else 1) (hr : Evt.RgtT P) (hp : Evt.rgt p = true) (hl : P.length ≤ 1000) (vp vt : Value) (w : World) (h1 : Pits w vp (P.map Prod.fst)) (h2 : Bools w vt (P.map Prod.snd)) (hs : s.size ≤ 140737488355328) :
    Calls Tryd.prog 49 #[.agg #[.int .i64 kk, vp, vt, .int .i64 x.b, .int .i64 x.d, .int .i64 x.n, .int .i64 x.e, .slice none 0 0, .string s], pt p.1 p.2.1 p.2.2, .bool t] w fun ed w' => ∃ up ut, ed = .returned (.agg #[.int .i64 kk, up, ut, .int .i64 x.b, .int .i64 x.d, .int .i64 x.n, .int .i64 x.e, .slice none 0 0, .string s]) ∧ Pits w' up ((Evt.putL p t P).map Prod.fst) ∧ Bools w' ut ((Evt.putL p t P).map Prod.snd) ∧ Own w.heap.size up ∧ Own w.heap.size ut ∧ Below w.heap.size w w' := by
  subst hk
  have h := put_walk (Evt.soFar P x [] s) vp vt (.slice none 0 0) p.1 p.2.1 p.2.2 t w ⟨h1, h2, Sl.none _ _ _, hs⟩ (Lib.hid (by simp [Evt.soFar])) (Lib.hid (Evt.soFar_rgt hr)) (Lib.hid hp) (by simpa [Evt.soFar] using hl)
  have e : Evt.pts (Evt.soFar P x [] s) = P := Evt.zip_fs P
  refine h.mono ?_
  rintro ed w' ⟨up, ut, rfl, a, b, c, d, f⟩
  unfold Evt.putE at a b
  dsimp only at a b
  rw [e] at a b
  exact ⟨up, ut, rfl, a, b, c, d, f⟩
theorem put_at {P : List Evt.PT} {b d n e x0 x1 x2 : Int} {s : ByteArray} {t : Bool} {kk : Int} (hk : kk = if P = [] then 0 else 1) (hr : Evt.RgtT P) (hp : Evt.rgt (x0, x1, x2) = true) (hl : P.length ≤ 1000) (vp vt : Value) (w : World) (h1 : Pits w vp (P.map Prod.fst)) (h2 : Bools w vt (P.map Prod.snd)) (hs : s.size ≤ 140737488355328) :
    Calls Tryd.prog 49 #[.agg #[.int .i64 kk, vp, vt, .int .i64 b, .int .i64 d, .int .i64 n, .int .i64 e, .slice none 0 0, .string s], pt x0 x1 x2, .bool t] w fun ed w' => ∃ up ut, ed = .returned (.agg #[.int .i64 kk, up, ut, .int .i64 b, .int .i64 d, .int .i64 n, .int .i64 e, .slice none 0 0, .string s]) ∧ Pits w' up ((Evt.putL (x0, x1, x2) t P).map Prod.fst) ∧ Bools w' ut ((Evt.putL (x0, x1, x2) t P).map Prod.snd) ∧ Own w.heap.size up ∧ Own w.heap.size ut ∧ Below w.heap.size w w' :=
  put_is (x := ⟨0, [], [], b, d, n, e, [], ByteArray.empty⟩) (p := (x0, x1, x2)) hk hr hp hl vp vt w h1 h2 hs
/-- But for one cell, what lay in the one world lies in the other. -/
def FrO (A q : Nat) (wa wr : World) : Prop := ∀ b o v, (b ≠ A ∨ o ≠ q) → wa.cell? ⟨b, o, none⟩ = some v → wr.cell? ⟨b, o, none⟩ = some v ∧ (wa.frozen? ⟨b, o, none⟩ = false → wr.frozen? ⟨b, o, none⟩ = false)
theorem FrO.refl (A q : Nat) (wa : World) : FrO A q wa wa := fun _ _ _ _ h => ⟨h, id⟩
theorem FrO.later {A q : Nat} {wa wr w2 : World} (h : FrO A q wa wr) (hb : Below wa.heap.size wr w2) : FrO A q wa w2 := fun b o v hn hc => by
  have hlt : b < wa.heap.size := World.block_lt_of_cell? _ _ hc
  obtain ⟨h1, h2⟩ := h b o v hn hc
  exact ⟨(hb.cell (p := ⟨b, o, none⟩) hlt).trans h1, fun hf => (hb.frozen (p := ⟨b, o, none⟩) hlt).trans (h2 hf)⟩
theorem FrO.set {A q : Nat} {wa wr : World} {x : Value} (h : FrO A q wa wr) : FrO A q wa (wr.setCell ⟨A, q, none⟩ x) := fun b o v hn hc => by
  obtain ⟨h1, h2⟩ := h b o v hn hc
  refine ⟨?_, fun hf => set_frozen (h2 hf)⟩
  by_cases hb' : b = A
  · subst hb'
    rcases hn with hn | hn
    · exact absurd rfl hn
    · exact set_beside (fun e => hn e.symm) h1
  · exact set_far hb' h1
theorem FrO.sl {A q : Nat} {wa wr : World} (h : FrO A q wa wr) {α : Type} {k : Nat} {enc : α → List Value} {v : Value} {l : List α} (hs : Sl k enc wa v l) (hn : Own (A + 1) v) : Sl k enc wr v l := by
  obtain ⟨p, cap, rfl, hl, hc, hx⟩ := hs
  refine ⟨p, cap, rfl, hl, hc, fun i y hi => ?_⟩
  obtain ⟨b, o, e, c⟩ := hx i y hi
  subst e
  have := hn b rfl
  exact ⟨b, o, rfl, fun j u hu => (h b _ u (Or.inl (by omega)) (c j u hu)).1⟩
/-- The chord so far, in a block of its own. -/
structure OutC (A : Nat) (P : List Evt.PT) (b d n e : Int) (s : ByteArray) (W : World) : Prop where
  ex : ∃ kk p1 c1 p2 c2, kk = (if P = [] then (0 : Int) else 1) ∧ W.cell? ⟨A, 0, none⟩ = some (.int .i64 kk) ∧ W.cell? ⟨A, 1, none⟩ = some (.slice p1 P.length c1) ∧ W.cell? ⟨A, 2, none⟩ = some (.slice p2 P.length c2) ∧ Pits W (.slice p1 P.length c1) (P.map Prod.fst) ∧ Bools W (.slice p2 P.length c2) (P.map Prod.snd) ∧ Own (A + 1) (.slice p1 P.length c1) ∧ Own (A + 1) (.slice p2 P.length c2)
  c3 : W.cell? ⟨A, 3, none⟩ = some (.int .i64 b)
  c4 : W.cell? ⟨A, 4, none⟩ = some (.int .i64 d)
  c5 : W.cell? ⟨A, 5, none⟩ = some (.int .i64 n)
  c6 : W.cell? ⟨A, 6, none⟩ = some (.int .i64 e)
  c7 : W.cell? ⟨A, 7, none⟩ = some (.slice none 0 0)
  c8 : W.cell? ⟨A, 8, none⟩ = some (.string s)
  f0 : W.frozen? ⟨A, 0, none⟩ = false
  f1 : W.frozen? ⟨A, 1, none⟩ = false
  f2 : W.frozen? ⟨A, 2, none⟩ = false
  f3 : W.frozen? ⟨A, 3, none⟩ = false
  f4 : W.frozen? ⟨A, 4, none⟩ = false
  f5 : W.frozen? ⟨A, 5, none⟩ = false
  f6 : W.frozen? ⟨A, 6, none⟩ = false
  f7 : W.frozen? ⟨A, 7, none⟩ = false
  f8 : W.frozen? ⟨A, 8, none⟩ = false
theorem OutC.later {A : Nat} {P : List Evt.PT} {b d n e : Int} {s : ByteArray} {W W' : World} (h : OutC A P b d n e s W) (hb : Below W.heap.size W W') : OutC A P b d n e s W' := by
  obtain ⟨⟨kk, p1, c1, p2, c2, h1, h2, h3, h4, h5, h6, h7, h8⟩, k3, k4, k5, k6, k7, k8, g0, g1, g2, g3, g4, g5, g6, g7, g8⟩ := h
  exact ⟨⟨kk, p1, c1, p2, c2, h1, cell_later hb h2, cell_later hb h3, cell_later hb h4, h5.later hb, h6.later hb, h7, h8⟩, cell_later hb k3, cell_later hb k4, cell_later hb k5, cell_later hb k6, cell_later hb k7, cell_later hb k8, frozen_later hb h2 g0, frozen_later hb h3 g1, frozen_later hb h4 g2, frozen_later hb k3 g3, frozen_later hb k4 g4, frozen_later hb k5 g5, frozen_later hb k6 g6, frozen_later hb k7 g7, frozen_later hb k8 g8⟩
theorem OutC.word {A : Nat} {P : List Evt.PT} {b d n e : Int} {s s' : ByteArray} {W : World} (h : OutC A P b d n e s W) : OutC A P b d n e s' (W.setCell ⟨A, 8, none⟩ (.string s')) := by
  obtain ⟨⟨kk, p1, c1, p2, c2, h1, h2, h3, h4, h5, h6, h7, h8⟩, k3, k4, k5, k6, k7, k8, g0, g1, g2, g3, g4, g5, g6, g7, g8⟩ := h
  exact ⟨⟨kk, p1, c1, p2, c2, h1, set_beside (by decide) h2, set_beside (by decide) h3, set_beside (by decide) h4, h5.set h7 (by omega), h6.set h8 (by omega), h7, h8⟩, set_beside (by decide) k3, set_beside (by decide) k4, set_beside (by decide) k5, set_beside (by decide) k6, set_beside (by decide) k7, set_same (held_of k8), set_frozen g0, set_frozen g1, set_frozen g2, set_frozen g3, set_frozen g4, set_frozen g5, set_frozen g6, set_frozen g7, set_frozen g8⟩
/-- .. when a pitch was put. -/
theorem OutC.puts {A : Nat} {P Q : List Evt.PT} {b d n e kk : Int} {s : ByteArray} {w0 u : World} {up ut : Value} (hQ : Q ≠ []) (hw : A < w0.heap.size) (h1 : Pits u up (Q.map Prod.fst)) (h2 : Bools u ut (Q.map Prod.snd)) (o1 : Own w0.heap.size up) (o2 : Own w0.heap.size ut) (h : OutC A P b d n e s u) :
    OutC A Q b d n e s ((put9 u A (.int .i64 kk) up ut (.int .i64 b) (.int .i64 d) (.int .i64 n) (.int .i64 e) (.slice none 0 0) (.string s)).setCell ⟨A, 0, none⟩ (.int .i64 1)) := by
  obtain ⟨⟨kk', p1, c1, p2, c2, _, q0, q1, q2, _, _, _, _⟩, k3, k4, k5, k6, k7, k8, g0, g1, g2, g3, g4, g5, g6, g7, g8⟩ := h
  obtain ⟨m0, m1, m2, m3, m4, m5, m6, m7, m8⟩ := put9_of (x0 := .int .i64 kk) (x1 := up) (x2 := ut) (x3 := .int .i64 b) (x4 := .int .i64 d) (x5 := .int .i64 n) (x6 := .int .i64 e) (x7 := .slice none 0 0) (x8 := .string s) q0 q1 q2 k3 k4 k5 k6 k7 k8
  obtain ⟨a1, b1, e1, _⟩ := sl_shape h1
  obtain ⟨a2, b2, e2, _⟩ := sl_shape h2
  rw [List.length_map] at e1 e2
  subst e1 e2
  have o1' := o1.mono (show A + 1 ≤ w0.heap.size by omega)
  have o2' := o2.mono (show A + 1 ≤ w0.heap.size by omega)
  have F9 : ∀ {q : Nat}, u.frozen? ⟨A, q, none⟩ = false → ((put9 u A (.int .i64 kk) (.slice a1 Q.length b1) (.slice a2 Q.length b2) (.int .i64 b) (.int .i64 d) (.int .i64 n) (.int .i64 e) (.slice none 0 0) (.string s)).setCell ⟨A, 0, none⟩ (.int .i64 1)).frozen? ⟨A, q, none⟩ = false := fun h => set_frozen (set_frozen (set_frozen (set_frozen (set_frozen (set_frozen (set_frozen (set_frozen (set_frozen (set_frozen h)))))))))
  exact ⟨⟨1, a1, b1, a2, b2, by rw [if_neg hQ], set_same (held_of m0), set_beside (by decide) m1, set_beside (by decide) m2, (put9_sl h1 o1').set o1' (by omega), (put9_sl h2 o2').set o2' (by omega), o1', o2'⟩, set_beside (by decide) m3, set_beside (by decide) m4, set_beside (by decide) m5, set_beside (by decide) m6, set_beside (by decide) m7, set_beside (by decide) m8, F9 g0, F9 g1, F9 g2, F9 g3, F9 g4, F9 g5, F9 g6, F9 g7, F9 g8⟩
theorem oneI1 (t : Int) : ∀ u ∈ [Value.int .i64 t], u.oneCell' = true := by intro u hu; simp at hu; subst hu; rfl
theorem all_pref {ys : List EM} {k : Nat} (h : ∀ y ∈ ys, Evt.IsR y.1) : Evt.RgtT (Evt.fl ((ys.take k).map Prod.fst)) := Evt.fl_rgt fun x hx => by
  obtain ⟨y, hy, e⟩ := List.mem_map.1 hx
  rw [← e]; exact h y (List.mem_of_mem_take hy)

set_option maxRecDepth 100000 in
set_option maxHeartbeats 40000000 in
theorem refChord_walk (v : Value) (ys : List EM) (w : World) (h : Evs w v ys) (H6 : Hid (ys.length ≤ 6)) :
    Calls Tryd.prog 19 #[v] w (EvRes (Evt.chordE (ys.map Prod.fst)) w) := by
  have HC := Lib.hid h
  obtain ⟨p0, c0, rfl, hl0⟩ := sl_shape h.row
  clear h
  have hB0 : Below w.heap.size w w := Below.refl _ _
  go_enter Tryd.func19, Tryd.ntmps19
  go_upto_region 1 with fail
  have hs1 : Below w.heap.size w (w.alloc (.cells #[.int .i64 0, .slice none 0 0, .slice none 0 0, .int .i64 0, .int .i64 0, .int .i64 0, .int .i64 0, .slice none 0 0, .string ⟨#[]⟩] 28)) := by repeat (first | exact Below.refl _ _ | refine Below.alloc ?_ (by simp <;> omega) _)
  have c_r_0 : (w.alloc (.cells #[.int .i64 0, .slice none 0 0, .slice none 0 0, .int .i64 0, .int .i64 0, .int .i64 0, .int .i64 0, .slice none 0 0, .string ⟨#[]⟩] 28)).cell? ⟨w.heap.size, 0, none⟩ = some (.int .i64 0) := by go_simp
  have f_r_0 : (w.alloc (.cells #[.int .i64 0, .slice none 0 0, .slice none 0 0, .int .i64 0, .int .i64 0, .int .i64 0, .int .i64 0, .slice none 0 0, .string ⟨#[]⟩] 28)).frozen? ⟨w.heap.size, 0, none⟩ = false := by go_simp
  have c_r_1 : (w.alloc (.cells #[.int .i64 0, .slice none 0 0, .slice none 0 0, .int .i64 0, .int .i64 0, .int .i64 0, .int .i64 0, .slice none 0 0, .string ⟨#[]⟩] 28)).cell? ⟨w.heap.size, 1, none⟩ = some (.slice none 0 0) := by go_simp
  have f_r_1 : (w.alloc (.cells #[.int .i64 0, .slice none 0 0, .slice none 0 0, .int .i64 0, .int .i64 0, .int .i64 0, .int .i64 0, .slice none 0 0, .string ⟨#[]⟩] 28)).frozen? ⟨w.heap.size, 1, none⟩ = false := by go_simp
  have c_r_2 : (w.alloc (.cells #[.int .i64 0, .slice none 0 0, .slice none 0 0, .int .i64 0, .int .i64 0, .int .i64 0, .int .i64 0, .slice none 0 0, .string ⟨#[]⟩] 28)).cell? ⟨w.heap.size, 2, none⟩ = some (.slice none 0 0) := by go_simp
  have f_r_2 : (w.alloc (.cells #[.int .i64 0, .slice none 0 0, .slice none 0 0, .int .i64 0, .int .i64 0, .int .i64 0, .int .i64 0, .slice none 0 0, .string ⟨#[]⟩] 28)).frozen? ⟨w.heap.size, 2, none⟩ = false := by go_simp
  have c_r_3 : (w.alloc (.cells #[.int .i64 0, .slice none 0 0, .slice none 0 0, .int .i64 0, .int .i64 0, .int .i64 0, .int .i64 0, .slice none 0 0, .string ⟨#[]⟩] 28)).cell? ⟨w.heap.size, 3, none⟩ = some (.int .i64 0) := by go_simp
  have f_r_3 : (w.alloc (.cells #[.int .i64 0, .slice none 0 0, .slice none 0 0, .int .i64 0, .int .i64 0, .int .i64 0, .int .i64 0, .slice none 0 0, .string ⟨#[]⟩] 28)).frozen? ⟨w.heap.size, 3, none⟩ = false := by go_simp
  have c_r_4 : (w.alloc (.cells #[.int .i64 0, .slice none 0 0, .slice none 0 0, .int .i64 0, .int .i64 0, .int .i64 0, .int .i64 0, .slice none 0 0, .string ⟨#[]⟩] 28)).cell? ⟨w.heap.size, 4, none⟩ = some (.int .i64 0) := by go_simp
  have f_r_4 : (w.alloc (.cells #[.int .i64 0, .slice none 0 0, .slice none 0 0, .int .i64 0, .int .i64 0, .int .i64 0, .int .i64 0, .slice none 0 0, .string ⟨#[]⟩] 28)).frozen? ⟨w.heap.size, 4, none⟩ = false := by go_simp
  have c_r_5 : (w.alloc (.cells #[.int .i64 0, .slice none 0 0, .slice none 0 0, .int .i64 0, .int .i64 0, .int .i64 0, .int .i64 0, .slice none 0 0, .string ⟨#[]⟩] 28)).cell? ⟨w.heap.size, 5, none⟩ = some (.int .i64 0) := by go_simp
  have f_r_5 : (w.alloc (.cells #[.int .i64 0, .slice none 0 0, .slice none 0 0, .int .i64 0, .int .i64 0, .int .i64 0, .int .i64 0, .slice none 0 0, .string ⟨#[]⟩] 28)).frozen? ⟨w.heap.size, 5, none⟩ = false := by go_simp
  have c_r_6 : (w.alloc (.cells #[.int .i64 0, .slice none 0 0, .slice none 0 0, .int .i64 0, .int .i64 0, .int .i64 0, .int .i64 0, .slice none 0 0, .string ⟨#[]⟩] 28)).cell? ⟨w.heap.size, 6, none⟩ = some (.int .i64 0) := by go_simp
  have f_r_6 : (w.alloc (.cells #[.int .i64 0, .slice none 0 0, .slice none 0 0, .int .i64 0, .int .i64 0, .int .i64 0, .int .i64 0, .slice none 0 0, .string ⟨#[]⟩] 28)).frozen? ⟨w.heap.size, 6, none⟩ = false := by go_simp
  have c_r_7 : (w.alloc (.cells #[.int .i64 0, .slice none 0 0, .slice none 0 0, .int .i64 0, .int .i64 0, .int .i64 0, .int .i64 0, .slice none 0 0, .string ⟨#[]⟩] 28)).cell? ⟨w.heap.size, 7, none⟩ = some (.slice none 0 0) := by go_simp
  have f_r_7 : (w.alloc (.cells #[.int .i64 0, .slice none 0 0, .slice none 0 0, .int .i64 0, .int .i64 0, .int .i64 0, .int .i64 0, .slice none 0 0, .string ⟨#[]⟩] 28)).frozen? ⟨w.heap.size, 7, none⟩ = false := by go_simp
  have c_r_8 : (w.alloc (.cells #[.int .i64 0, .slice none 0 0, .slice none 0 0, .int .i64 0, .int .i64 0, .int .i64 0, .int .i64 0, .slice none 0 0, .string ⟨#[]⟩] 28)).cell? ⟨w.heap.size, 8, none⟩ = some (.string ⟨#[]⟩) := by go_simp
  have f_r_8 : (w.alloc (.cells #[.int .i64 0, .slice none 0 0, .slice none 0 0, .int .i64 0, .int .i64 0, .int .i64 0, .int .i64 0, .slice none 0 0, .string ⟨#[]⟩] 28)).frozen? ⟨w.heap.size, 8, none⟩ = false := by go_simp
  have hB1 := below_two hB0 hs1
  clear hB0 hs1
  generalize (w.alloc (.cells #[.int .i64 0, .slice none 0 0, .slice none 0 0, .int .i64 0, .int .i64 0, .int .i64 0, .int .i64 0, .slice none 0 0, .string ⟨#[]⟩] 28)) = w1 at *
  have z_r : w.heap.size < _ := World.block_lt_of_cell? _ _ c_r_0
  have hgR := guardR
  have hgV := guardV
  have heV := eql_vl
  have hnV := neq_vl
  by_cases h0 : ys.length = 0
  · have e0 : ((ys.length : Int) == 0) = true := by simp [h0]
    have hU : Evt.chordE (ys.map Prod.fst) = (Evt.zero, 2) := by rw [List.eq_nil_of_length_eq_zero h0]; rfl
    have HU := Lib.hid hU
    clear hU
    have r_0 := c_r_0
    have rf_0 := f_r_0
    have r_1 := c_r_1
    have rf_1 := f_r_1
    have r_2 := c_r_2
    have rf_2 := f_r_2
    have r_3 := c_r_3
    have rf_3 := f_r_3
    have r_4 := c_r_4
    have rf_4 := f_r_4
    have r_5 := c_r_5
    have rf_5 := f_r_5
    have r_6 := c_r_6
    have rf_6 := f_r_6
    have r_7 := c_r_7
    have rf_7 := f_r_7
    have r_8 := c_r_8
    have rf_8 := f_r_8
    obtain ⟨m0, m1, m2, m3, m4, m5, m6, m7, m8⟩ := put9_of (x0 := .int .i64 0) (x1 := .slice none 0 0) (x2 := .slice none 0 0) (x3 := .int .i64 0) (x4 := .int .i64 0) (x5 := .int .i64 0) (x6 := .int .i64 0) (x7 := .slice none 0 0) (x8 := .string ⟨#[]⟩) r_0 r_1 r_2 r_3 r_4 r_5 r_6 r_7 r_8
    go_wp2
    rw [HU.out]
    exact bodyPost_ret (v := .tuple #[.agg #[.int .i64 0, .slice none 0 0, .slice none 0 0, .int .i64 0, .int .i64 0, .int .i64 0, .int .i64 0, .slice none 0 0, .string ⟨#[]⟩], .int .i64 2]) (by simp [results, Tryd.results19, go_sem, m0, m1, m2, m3, m4, m5, m6, m7, m8]) rfl (evRes_zero rfl (put9_below hB1 (by omega)))
  obtain ⟨y0, hy0⟩ : ∃ y0, ys[0]? = some y0 := ⟨_, List.getElem?_eq_getElem (by omega)⟩
  obtain ⟨l0, hcons⟩ : ∃ l0, ys = y0 :: l0 := by
    cases ys with
    | nil => simp at h0
    | cons a l => simp at hy0; exact ⟨l, by rw [hy0]⟩
  have HCONS := Lib.hid hcons
  have HY0 := Lib.hid hy0
  clear hcons hy0
  have e0 : ((ys.length : Int) == 0) = false := by simpa using h0
  go_wp2
  go_loopw [4] (fun i wr => AllE (fun y => Evt.right y.1) ys w1 i wr) (fun i _ => ys.length - (intOf i).toNat)
  case atStart => exact ⟨0, Nat.zero_le _, rfl, rfl, Below.refl _ _⟩
  case round =>
    obtain ⟨k1, hk1, rfl, he, hB⟩ := hrel
    obtain ⟨wq, hwq⟩ : ∃ x, x = wr := ⟨_, rfl⟩
    subst hwq
    have HE := Lib.hid he
    clear he
    have hBq : Below w.heap.size w wq := below_two hB1 hB
    by_cases hlt : k1 < ys.length
    · have HIR : Hid (∀ y ∈ ys, True) := Lib.hid fun _ _ => trivial
      obtain ⟨y, hy⟩ : ∃ y, ys[k1]? = some y := ⟨_, List.getElem?_eq_getElem hlt⟩
      have hyR := HC.out.each y (List.mem_of_getElem? hy)
      have hIR := HIR.out y (List.mem_of_getElem? hy)
      obtain ⟨p1, c1, p2, c2, p3, c3, hys⟩ := evs_shape hyR
      have hat := evs_at HC.out hy
      generalize y.1 = x at *
      subst hys
      obtain ⟨k, ps, ts, b, d, n, e0, ms, str⟩ := x
      obtain ⟨b1, o1, e1, hc0, hc1, hc2, hc3, hc4, hc5, hc6, hc7, hc8⟩ := hat
      cases e1
      dsimp only at hyR hc0 hc1 hc2 hc3 hc4 hc5 hc6 hc7 hc8
      have HY := Lib.hid hy
      have HIY := Lib.hid hIR
      have HYR := Lib.hid hyR
      have hltI : ((k1 : Nat) : Int) < (ys.length : Int) := by omega
      clear hy hyR hIR
      replace hc0 := cell_later hBq hc0
      replace hc1 := cell_later hBq hc1
      replace hc2 := cell_later hBq hc2
      replace hc3 := cell_later hBq hc3
      replace hc4 := cell_later hBq hc4
      replace hc5 := cell_later hBq hc5
      replace hc6 := cell_later hBq hc6
      replace hc7 := cell_later hBq hc7
      replace hc8 := cell_later hBq hc8
      cases hq : Evt.right (⟨k, ps, ts, b, d, n, e0, ms, str⟩ : Ev)
      · have HU : Hid (Evt.chordE (ys.map Prod.fst) = (Evt.zero, 60)) := Lib.hid (by
          rw [HCONS.out, List.map_cons, Evt.chordE_cons, ← List.map_cons, ← HCONS.out]
          have : (ys.map Prod.fst).all Evt.right = false := Evt.all_not (f := Evt.right) (l := ys.map Prod.fst) (k := k1) (x := (⟨k, ps, ts, b, d, n, e0, ms, str⟩ : Ev)) (by rw [List.getElem?_map, HY.out]; rfl) hq
          rw [this]; rfl)
        go_wp2_with fail
        refine (refERight_is hq _ _ _ _ (HYR.out.later hBq)).mono ?_
        rintro e w3 ⟨rfl, hb3⟩
        have hb13 := below_two hB hb3
        have r_0 := cell_later hb13 c_r_0
        have rf_0 := frozen_later hb13 c_r_0 f_r_0
        have r_1 := cell_later hb13 c_r_1
        have rf_1 := frozen_later hb13 c_r_1 f_r_1
        have r_2 := cell_later hb13 c_r_2
        have rf_2 := frozen_later hb13 c_r_2 f_r_2
        have r_3 := cell_later hb13 c_r_3
        have rf_3 := frozen_later hb13 c_r_3 f_r_3
        have r_4 := cell_later hb13 c_r_4
        have rf_4 := frozen_later hb13 c_r_4 f_r_4
        have r_5 := cell_later hb13 c_r_5
        have rf_5 := frozen_later hb13 c_r_5 f_r_5
        have r_6 := cell_later hb13 c_r_6
        have rf_6 := frozen_later hb13 c_r_6 f_r_6
        have r_7 := cell_later hb13 c_r_7
        have rf_7 := frozen_later hb13 c_r_7 f_r_7
        have r_8 := cell_later hb13 c_r_8
        have rf_8 := frozen_later hb13 c_r_8 f_r_8
        have hB3 := below_two hBq hb3
        have hs3 := hb13.size
        clear hb3 hb13 hc0 c_r_0 f_r_0 hc1 c_r_1 f_r_1 hc2 c_r_2 f_r_2 hc3 c_r_3 f_r_3 hc4 c_r_4 f_r_4 hc5 c_r_5 f_r_5 hc6 c_r_6 f_r_6 hc7 c_r_7 f_r_7 hc8 c_r_8 f_r_8
        obtain ⟨m0, m1, m2, m3, m4, m5, m6, m7, m8⟩ := put9_of (x0 := .int .i64 0) (x1 := .slice none 0 0) (x2 := .slice none 0 0) (x3 := .int .i64 0) (x4 := .int .i64 0) (x5 := .int .i64 0) (x6 := .int .i64 0) (x7 := .slice none 0 0) (x8 := .string ⟨#[]⟩) r_0 r_1 r_2 r_3 r_4 r_5 r_6 r_7 r_8
        go_wp2
        rw [HU.out]
        exact bodyPost_ret (v := .tuple #[.agg #[.int .i64 0, .slice none 0 0, .slice none 0 0, .int .i64 0, .int .i64 0, .int .i64 0, .int .i64 0, .slice none 0 0, .string ⟨#[]⟩], .int .i64 60]) (by simp [results, Tryd.results19, go_sem, m0, m1, m2, m3, m4, m5, m6, m7, m8]) rfl (evRes_zero rfl (put9_below hB3 (by omega)))
      · go_wp2_with fail
        refine (refERight_is hq _ _ _ _ (HYR.out.later hBq)).mono ?_
        rintro e w3 ⟨rfl, hb3⟩
        have HQ := Lib.hid hq
        clear hq
        go_wp2
        go_roundw
        case rel => exact ⟨k1 + 1, by omega, by go_num, Evt.all_take HY.out HE.out HQ.out, below_two hB hb3⟩
        case measure => simp [intOf]; omega
    · obtain rfl : k1 = ys.length := by omega
      have HIR : Hid (∀ y ∈ ys, Evt.IsR y.1) := Lib.hid fun y hy => (Evt.right_iff _).1 (by have h1 := HE.out; rw [List.take_length] at h1; exact List.all_eq_true.1 h1 y hy)
      have HAR : Hid ((ys.map Prod.fst).all Evt.right = true) := Lib.hid (by have h1 := HE.out; rw [List.take_length] at h1; rw [List.all_map]; exact h1)
      clear HE
      have hge : ¬ (ys.length : Int) < (ys.length : Int) := by omega
      have h0' : 0 < ys.length := by omega
      have h0I : (0 : Int) < (ys.length : Int) := by omega
      have hy0R := HC.out.each y0 (List.mem_of_getElem? HY0.out)
      have hat0 := evs_at HC.out HY0.out
      obtain ⟨x0, vp0, vt0, vm0⟩ := y0
      obtain ⟨kz, psz, tsz, bz, dz, nz, ez, msz, strz⟩ := x0
      obtain ⟨b0, o0, e1, hz0, hz1, hz2, hz3, hz4, hz5, hz6, hz7, hz8⟩ := hat0
      cases e1
      dsimp only at hz0 hz1 hz2 hz3 hz4 hz5 hz6 hz7 hz8
      clear hz0 hz1 hz2 hz7 hz8 hy0R
      replace hz3 := cell_later hBq hz3
      replace hz4 := cell_later hBq hz4
      replace hz5 := cell_later hBq hz5
      replace hz6 := cell_later hBq hz6
      have r_0 := cell_later hB c_r_0
      have rf_0 := frozen_later hB c_r_0 f_r_0
      have r_1 := cell_later hB c_r_1
      have rf_1 := frozen_later hB c_r_1 f_r_1
      have r_2 := cell_later hB c_r_2
      have rf_2 := frozen_later hB c_r_2 f_r_2
      have r_3 := cell_later hB c_r_3
      have rf_3 := frozen_later hB c_r_3 f_r_3
      have r_4 := cell_later hB c_r_4
      have rf_4 := frozen_later hB c_r_4 f_r_4
      have r_5 := cell_later hB c_r_5
      have rf_5 := frozen_later hB c_r_5 f_r_5
      have r_6 := cell_later hB c_r_6
      have rf_6 := frozen_later hB c_r_6 f_r_6
      have r_7 := cell_later hB c_r_7
      have rf_7 := frozen_later hB c_r_7 f_r_7
      have r_8 := cell_later hB c_r_8
      have rf_8 := frozen_later hB c_r_8 f_r_8
      clear c_r_0 f_r_0 c_r_1 f_r_1 c_r_2 f_r_2 c_r_3 f_r_3 c_r_4 f_r_4 c_r_5 f_r_5 c_r_6 f_r_6 c_r_7 f_r_7 c_r_8 f_r_8
      have z_rq : w.heap.size < wq.heap.size := World.block_lt_of_cell? _ _ r_0
      go_upto_region 9 with fail
      have hOut : OutC wq.heap.size [] bz dz nz ez ByteArray.empty (wq.alloc (.cells #[.int .i64 0, .slice none 0 0, .slice none 0 0, .int .i64 bz, .int .i64 dz, .int .i64 nz, .int .i64 ez, .slice none 0 0, .string ⟨#[]⟩] 28)) := ⟨⟨0, none, 0, none, 0, rfl, by go_simp, by go_simp, by go_simp, Sl.none _ _ _, Sl.none _ _ _, Own.nil _ _ _, Own.nil _ _ _⟩, by go_simp, by go_simp, by go_simp, by go_simp, by go_simp, by go_simp; rfl, by go_simp, by go_simp, by go_simp, by go_simp, by go_simp, by go_simp, by go_simp, by go_simp, by go_simp⟩
      have hBo : Below wq.heap.size wq (wq.alloc (.cells #[.int .i64 0, .slice none 0 0, .slice none 0 0, .int .i64 bz, .int .i64 dz, .int .i64 nz, .int .i64 ez, .slice none 0 0, .string ⟨#[]⟩] 28)) := (Below.refl _ _).alloc (Nat.le_refl _) _
      generalize (wq.alloc (.cells #[.int .i64 0, .slice none 0 0, .slice none 0 0, .int .i64 bz, .int .i64 dz, .int .i64 nz, .int .i64 ez, .slice none 0 0, .string ⟨#[]⟩] 28)) = wo at *
      go_wp2
      go_loopw [6] (fun i wr => ∃ q : Nat, q ≤ ys.length ∧ i = .int .i64 (q : Int) ∧ ((ys.take q).map Prod.fst).all (Evt.sameVal (⟨kz, psz, tsz, bz, dz, nz, ez, msz, strz⟩ : Ev)) = true ∧ OutC wq.heap.size (Evt.putAll [] (Evt.fl ((ys.take q).map Prod.fst))) bz dz nz ez (Evt.fw ((ys.take q).map Prod.fst)) wr ∧ Below wq.heap.size wq wr ∧ wq.heap.size < wr.heap.size) (fun i _ => ys.length - (intOf i).toNat)
      case atStart => exact ⟨0, Nat.zero_le _, rfl, rfl, hOut, hBo, by obtain ⟨kk, _, _, _, _, _, h2, _⟩ := hOut.ex; exact World.block_lt_of_cell? _ _ h2⟩
      case round =>
        clear hOut hBo hz3 hz4 hz5 hz6
        obtain ⟨q, hq, rfl, hv, hO, hBr, hAr⟩ := hrel
        obtain ⟨wa, hwa⟩ : ∃ x, x = wr := ⟨_, rfl⟩
        subst hwa
        have HV := Lib.hid hv
        have HO := Lib.hid hO
        clear hv hO
        have hBa : Below w.heap.size w wa := below_two hBq hBr
        by_cases hlt : q < ys.length
        · obtain ⟨y, hy⟩ : ∃ y, ys[q]? = some y := ⟨_, List.getElem?_eq_getElem hlt⟩
          have hyR := HC.out.each y (List.mem_of_getElem? hy)
          have hIR := HIR.out y (List.mem_of_getElem? hy)
          obtain ⟨p1, c1, p2, c2, p3, c3, hys⟩ := evs_shape hyR
          have hat := evs_at HC.out hy
          generalize y.1 = x at *
          subst hys
          obtain ⟨k, ps, ts, b, d, n, e0, ms, str⟩ := x
          obtain ⟨b1, o1, e1, hc0, hc1, hc2, hc3, hc4, hc5, hc6, hc7, hc8⟩ := hat
          cases e1
          dsimp only at hyR hc0 hc1 hc2 hc3 hc4 hc5 hc6 hc7 hc8
          have HY := Lib.hid hy
          have HIY := Lib.hid hIR
          have HYR := Lib.hid hyR
          have hltI : ((q : Nat) : Int) < (ys.length : Int) := by omega
          clear hy hyR hIR
          replace hc0 := cell_later hBa hc0
          replace hc1 := cell_later hBa hc1
          replace hc2 := cell_later hBa hc2
          replace hc3 := cell_later hBa hc3
          replace hc4 := cell_later hBa hc4
          replace hc5 := cell_later hBa hc5
          replace hc6 := cell_later hBa hc6
          replace hc7 := cell_later hBa hc7
          replace hc8 := cell_later hBa hc8
          obtain ⟨kk, q1, d1, q2, d2, hkk, o_0, o_1, o_2, hS1, hS2, hO1, hO2⟩ := HO.out.ex
          have HKK := Lib.hid hkk
          clear hkk hS1 hS2 hO1 hO2
          have o_3 := HO.out.c3
          have o_4 := HO.out.c4
          have o_5 := HO.out.c5
          have o_6 := HO.out.c6
          have hMap : (ys.map Prod.fst)[q]? = some (⟨k, ps, ts, b, d, n, e0, ms, str⟩ : Ev) := by rw [List.getElem?_map, HY.out]; rfl
          have HMap := Lib.hid hMap
          clear hMap
          cases hE : eqV b d n e0 bz dz nz ez
          · have HU : Hid (Evt.chordE (ys.map Prod.fst) = (Evt.zero, 2)) := Lib.hid (by
              have h1 : (ys.map Prod.fst).all (Evt.sameVal (⟨kz, psz, tsz, bz, dz, nz, ez, msz, strz⟩ : Ev)) = false := Evt.all_not (k := q) (x := (⟨k, ps, ts, b, d, n, e0, ms, str⟩ : Ev)) HMap.out (by rw [← eqV_same]; exact hE)
              have h2 := HAR.out
              rw [HCONS.out, List.map_cons] at h1 h2 ⊢
              rw [Evt.chordE_cons, h2, h1]; rfl)
            go_wp2_with fail
            have g_hc3 := fun dd os => cell_regrown hc3 dd os
            have g_hc4 := fun dd os => cell_regrown hc4 dd os
            have g_hc5 := fun dd os => cell_regrown hc5 dd os
            have g_hc6 := fun dd os => cell_regrown hc6 dd os
            have g_o_3 := fun dd os => cell_regrown o_3 dd os
            have g_o_4 := fun dd os => cell_regrown o_4 dd os
            have g_o_5 := fun dd os => cell_regrown o_5 dd os
            have g_o_6 := fun dd os => cell_regrown o_6 dd os
            refine wp_region_quiet_below (by kernel_rfl) (by kernel_rfl) ?_
            repeat (go_big_quiet_step (first | fail))
            refine wpQuiet_nil ?_
            intro _ hw'
            obtain ⟨⟨dq, osq⟩, hw''⟩ := hw'
            subst hw''
            replace hc3 := g_hc3 dq osq
            clear g_hc3
            replace hc4 := g_hc4 dq osq
            clear g_hc4
            replace hc5 := g_hc5 dq osq
            clear g_hc5
            replace hc6 := g_hc6 dq osq
            clear g_hc6
            replace o_3 := g_o_3 dq osq
            clear g_o_3
            replace o_4 := g_o_4 dq osq
            clear g_o_4
            replace o_5 := g_o_5 dq osq
            clear g_o_5
            replace o_6 := g_o_6 dq osq
            clear g_o_6
            have hb_w8 := below_regrown wa dq osq
            generalize Go.Sort.grow (redrawn wa dq) osq = w8 at *
            have hb18 := below_two hBr hb_w8
            have s_0 := cell_later hb18 r_0
            have sf_0 := frozen_later hb18 r_0 rf_0
            have s_1 := cell_later hb18 r_1
            have sf_1 := frozen_later hb18 r_1 rf_1
            have s_2 := cell_later hb18 r_2
            have sf_2 := frozen_later hb18 r_2 rf_2
            have s_3 := cell_later hb18 r_3
            have sf_3 := frozen_later hb18 r_3 rf_3
            have s_4 := cell_later hb18 r_4
            have sf_4 := frozen_later hb18 r_4 rf_4
            have s_5 := cell_later hb18 r_5
            have sf_5 := frozen_later hb18 r_5 rf_5
            have s_6 := cell_later hb18 r_6
            have sf_6 := frozen_later hb18 r_6 rf_6
            have s_7 := cell_later hb18 r_7
            have sf_7 := frozen_later hb18 r_7 rf_7
            have s_8 := cell_later hb18 r_8
            have sf_8 := frozen_later hb18 r_8 rf_8
            have hB8 := below_two hBq hb18
            clear hb18 hb_w8 r_0 rf_0 r_1 rf_1 r_2 rf_2 r_3 rf_3 r_4 rf_4 r_5 rf_5 r_6 rf_6 r_7 rf_7 r_8 rf_8
            obtain ⟨m0, m1, m2, m3, m4, m5, m6, m7, m8⟩ := put9_of (x0 := .int .i64 0) (x1 := .slice none 0 0) (x2 := .slice none 0 0) (x3 := .int .i64 0) (x4 := .int .i64 0) (x5 := .int .i64 0) (x6 := .int .i64 0) (x7 := .slice none 0 0) (x8 := .string ⟨#[]⟩) s_0 s_1 s_2 s_3 s_4 s_5 s_6 s_7 s_8
            go_wp2
            rw [HU.out]
            exact bodyPost_ret (v := .tuple #[.agg #[.int .i64 0, .slice none 0 0, .slice none 0 0, .int .i64 0, .int .i64 0, .int .i64 0, .int .i64 0, .slice none 0 0, .string ⟨#[]⟩], .int .i64 2]) (by simp [results, Tryd.results19, go_sem, m0, m1, m2, m3, m4, m5, m6, m7, m8]) rfl (evRes_zero rfl (put9_below hB8 (by omega)))
          · have hsv : Evt.sameVal (⟨kz, psz, tsz, bz, dz, nz, ez, msz, strz⟩ : Ev) (⟨k, ps, ts, b, d, n, e0, ms, str⟩ : Ev) = true := by rw [← eqV_same]; exact hE
            have HSV := Lib.hid hsv
            clear hsv
            go_wp2_with fail
            have g_hc3 := fun dd os => cell_regrown hc3 dd os
            have g_hc4 := fun dd os => cell_regrown hc4 dd os
            have g_hc5 := fun dd os => cell_regrown hc5 dd os
            have g_hc6 := fun dd os => cell_regrown hc6 dd os
            have g_o_3 := fun dd os => cell_regrown o_3 dd os
            have g_o_4 := fun dd os => cell_regrown o_4 dd os
            have g_o_5 := fun dd os => cell_regrown o_5 dd os
            have g_o_6 := fun dd os => cell_regrown o_6 dd os
            refine wp_region_quiet_below (by kernel_rfl) (by kernel_rfl) ?_
            repeat (go_big_quiet_step (first | fail))
            refine wpQuiet_nil ?_
            intro _ hw'
            obtain ⟨⟨dq, osq⟩, hw''⟩ := hw'
            subst hw''
            replace hc3 := g_hc3 dq osq
            clear g_hc3
            replace hc4 := g_hc4 dq osq
            clear g_hc4
            replace hc5 := g_hc5 dq osq
            clear g_hc5
            replace hc6 := g_hc6 dq osq
            clear g_hc6
            replace o_3 := g_o_3 dq osq
            clear g_o_3
            replace o_4 := g_o_4 dq osq
            clear g_o_4
            replace o_5 := g_o_5 dq osq
            clear g_o_5
            replace o_6 := g_o_6 dq osq
            clear g_o_6
            have hb_w8 := below_regrown wa dq osq
            generalize Go.Sort.grow (redrawn wa dq) osq = w8 at *
            clear o_0 o_1 o_2 o_3 o_4 o_5 o_6 hc0 hc3 hc4 hc5 hc6 hc7 hE
            have hO8 := HO.out.later hb_w8
            have hc1 := cell_later hb_w8 hc1
            have hc2 := cell_later hb_w8 hc2
            have hc8 := cell_later hb_w8 hc8
            have hB8 := below_two hBr hb_w8
            have hA8 : wq.heap.size < w8.heap.size := Nat.lt_of_lt_of_le hAr hb_w8.size
            clear hb_w8 HO
            have HSW := Lib.hid HYR.out.sz
            have HFW := Lib.hid (Evt.fw_take HMap.out)
            have HFL := Lib.hid (Evt.fl_take HMap.out)
            rw [List.map_take] at hO8
            obtain ⟨S, HS⟩ : ∃ S, Hid (Evt.fw ((ys.map Prod.fst).take q) = S) := ⟨_, Lib.hid rfl⟩
            rw [HS.out] at hO8
            have o_8 := hO8.c8
            have g_8 := hO8.f8
            have HO8 := Lib.hid hO8
            clear hO8
            by_cases hs0 : S.size = 0
            · have ht : (S.toList == ([] : List UInt8)) = true := by rw [ByteArray.toList_eq]; simp; exact Array.eq_empty_of_size_eq_zero hs0
              have ht2 : S.toList = [] := by simpa using ht
              have ht3 : (!S.toList.isEmpty) = false := by rw [ht2]; rfl
              have ht4 : S.toList.isEmpty = true := by rw [ht2]; rfl
              have HFW2 : Hid (Evt.fw ((ys.map Prod.fst).take (q + 1)) = str) := Lib.hid (by rw [HFW.out, HS.out, if_pos hs0])
              have HSZ : Hid (str.size ≤ 140737488355328) := Lib.hid HYR.out.sz
              clear HFW
              go_upto_region 16 with fail
              have hO9 := HO8.out.word (s' := str)
              have hB9 : Below wq.heap.size wq (w8.setCell ⟨wq.heap.size, 8, none⟩ (.string str)) := set1_below hB8 (Nat.le_refl _)
              have hA9 : wq.heap.size < (w8.setCell ⟨wq.heap.size, 8, none⟩ (.string str)).heap.size := by simpa using hA8
              clear HO8 hB8 hA8 o_8 g_8 ht ht2 ht3 ht4 hs0 hc1 hc2 hc8
              generalize w8.setCell ⟨wq.heap.size, 8, none⟩ (.string str) = w9 at *
              go_wp2
              go_loopw [7] (fun i wr => ∃ r : Nat, r ≤ ps.length ∧ i = .int .i64 (r : Int) ∧ OutC wq.heap.size (Evt.putAll [] (Evt.fl ((ys.map Prod.fst).take q) ++ (Evt.pts (⟨k, ps, ts, b, d, n, e0, ms, str⟩ : Ev)).take r)) bz dz nz ez str wr ∧ Below wq.heap.size wq wr ∧ wq.heap.size < wr.heap.size) (fun i _ => ps.length - (intOf i).toNat)
              case atStart => exact ⟨0, Nat.zero_le _, rfl, by rw [List.take_zero, List.append_nil]; exact hO9, hB9, hA9⟩
              case round =>
                clear hO9 hB9 hA9
                obtain ⟨r, hr, rfl, hO, hBi, hAi⟩ := hrel
                obtain ⟨kk, q1, d1, q2, d2, hkk, o_0, o_1, o_2, hS1, hS2, hO1, hO2⟩ := hO.ex
                have HO := Lib.hid hO
                have HKK := Lib.hid hkk
                have HS1 := Lib.hid hS1
                have HS2 := Lib.hid hS2
                clear hO hkk hS1 hS2 hO1 hO2
                have hBw : Below w.heap.size w wr := below_two hBq hBi
                obtain ⟨bl, ol, el, gc0, gc1, gc2, gc3, gc4, gc5, gc6, gc7, gc8⟩ := evs_at HC.out HY.out
                cases el
                dsimp only at gc1 gc2
                clear gc0 gc3 gc4 gc5 gc6 gc7 gc8
                replace gc1 := cell_later hBw gc1
                replace gc2 := cell_later hBw gc2
                have hTL : ts.length = ps.length := HIY.out.len
                have n8 : ps.length ≤ 8 := HIY.out.max8
                by_cases hlt3 : r < ps.length
                · obtain ⟨x, hx⟩ : ∃ x, ps[r]? = some x := ⟨_, List.getElem?_eq_getElem hlt3⟩
                  obtain ⟨tk, ht⟩ : ∃ y, ts[r]? = some y := ⟨_, List.getElem?_eq_getElem (by omega)⟩
                  obtain ⟨bp, op, ex, hx0, hx1, hx2⟩ := pits_at (HYR.out.later hBw).ps hx
                  cases ex
                  obtain ⟨bt, ot, et, ht0⟩ := bools_at (HYR.out.later hBw).ts ht
                  cases et
                  have HRX : Hid (Evt.rgt x = true) := Lib.hid (List.all_eq_true.1 HIY.out.rgts _ (List.mem_of_getElem? hx))
                  have HPT : Hid ((Evt.pts (⟨k, ps, ts, b, d, n, e0, ms, str⟩ : Ev)).take (r + 1) = (Evt.pts (⟨k, ps, ts, b, d, n, e0, ms, str⟩ : Ev)).take r ++ [(x, tk)]) := Lib.hid (take_succ_at (Evt.pts_get hx ht))
                  clear hx ht
                  obtain ⟨x0, x1, x2⟩ := x
                  dsimp only at hx0 hx1 hx2
                  have hltI3 : (r : Int) < (ps.length : Int) := by omega
                  have hltT3 : (r : Int) < (ts.length : Int) := by omega
                  have hltT4 : r < ts.length := by omega
                  have o_3 := HO.out.c3
                  have o_4 := HO.out.c4
                  have o_5 := HO.out.c5
                  have o_6 := HO.out.c6
                  have o_7 := HO.out.c7
                  have o_8 := HO.out.c8
                  have g_0 := HO.out.f0
                  have g_1 := HO.out.f1
                  have g_2 := HO.out.f2
                  have g_3 := HO.out.f3
                  have g_4 := HO.out.f4
                  have g_5 := HO.out.f5
                  have g_6 := HO.out.f6
                  have g_7 := HO.out.f7
                  have g_8 := HO.out.f8
                  generalize hP : (Evt.putAll [] (Evt.fl ((ys.map Prod.fst).take q) ++ (Evt.pts (⟨k, ps, ts, b, d, n, e0, ms, str⟩ : Ev)).take r)) = P at *
                  have HP := Lib.hid hP
                  clear hP
                  have HRG : Hid (Evt.RgtT P) := Lib.hid (by
                    rw [← HP.out]
                    refine (Evt.putAll_good (a := []) ?_ (by intro x hx; simp at hx) (by simp [Evt.AscT])).1
                    refine Evt.rgtT_prefix (n := (Evt.pts (⟨k, ps, ts, b, d, n, e0, ms, str⟩ : Ev)).drop r) ((HFL.out ▸ (by rw [← List.map_take]; exact all_pref HIR.out)) : Evt.RgtT (Evt.fl ((ys.map Prod.fst).take q) ++ Evt.pts (⟨k, ps, ts, b, d, n, e0, ms, str⟩ : Ev))) ?_
                    rw [List.append_assoc, List.take_append_drop])
                  have HLN : Hid (P.length ≤ 1000) := Lib.hid (by
                    rw [← HP.out]
                    have h1 := Evt.putAll_length (Evt.fl ((ys.map Prod.fst).take q) ++ (Evt.pts (⟨k, ps, ts, b, d, n, e0, ms, str⟩ : Ev)).take r) []
                    have h2 : (Evt.fl ((ys.map Prod.fst).take (q + 1))).length ≤ 8 * ((ys.map Prod.fst).take (q + 1)).length := Evt.fl_length fun x hx => by
                      obtain ⟨y, hy, e⟩ := List.mem_map.1 (List.mem_of_mem_take hx)
                      rw [← e]; exact HIR.out y hy
                    rw [HFL.out, List.length_append] at h2
                    rw [List.length_append, List.length_take] at h1
                    have h3 := H6.out
                    rw [List.length_take, List.length_map] at h2
                    simp only [List.length_nil] at h1
                    omega)
                  go_wp2_with fail
                  have RB : Hid (∀ u, Below wr.drew.heap.size wr.drew u → u.cell? ⟨wq.heap.size, 0, none⟩ = some (.int .i64 kk) ∧ u.cell? ⟨wq.heap.size, 1, none⟩ = some (.slice q1 P.length d1) ∧ u.cell? ⟨wq.heap.size, 2, none⟩ = some (.slice q2 P.length d2) ∧ u.cell? ⟨wq.heap.size, 3, none⟩ = some (.int .i64 bz) ∧ u.cell? ⟨wq.heap.size, 4, none⟩ = some (.int .i64 dz) ∧ u.cell? ⟨wq.heap.size, 5, none⟩ = some (.int .i64 nz) ∧ u.cell? ⟨wq.heap.size, 6, none⟩ = some (.int .i64 ez) ∧ u.cell? ⟨wq.heap.size, 7, none⟩ = some (.slice none 0 0) ∧ u.cell? ⟨wq.heap.size, 8, none⟩ = some (.string str) ∧ u.frozen? ⟨wq.heap.size, 0, none⟩ = false ∧ u.frozen? ⟨wq.heap.size, 1, none⟩ = false ∧ u.frozen? ⟨wq.heap.size, 2, none⟩ = false ∧ u.frozen? ⟨wq.heap.size, 3, none⟩ = false ∧ u.frozen? ⟨wq.heap.size, 4, none⟩ = false ∧ u.frozen? ⟨wq.heap.size, 5, none⟩ = false ∧ u.frozen? ⟨wq.heap.size, 6, none⟩ = false ∧ u.frozen? ⟨wq.heap.size, 7, none⟩ = false ∧ u.frozen? ⟨wq.heap.size, 8, none⟩ = false ∧ Below wr.heap.size wr u) := Lib.hid (fun u hq => ⟨cell_later hq (cell_drew o_0), cell_later hq (cell_drew o_1), cell_later hq (cell_drew o_2), cell_later hq (cell_drew o_3), cell_later hq (cell_drew o_4), cell_later hq (cell_drew o_5), cell_later hq (cell_drew o_6), cell_later hq (cell_drew o_7), cell_later hq (cell_drew o_8), frozen_later hq (cell_drew o_0) (frozen_drew g_0), frozen_later hq (cell_drew o_1) (frozen_drew g_1), frozen_later hq (cell_drew o_2) (frozen_drew g_2), frozen_later hq (cell_drew o_3) (frozen_drew g_3), frozen_later hq (cell_drew o_4) (frozen_drew g_4), frozen_later hq (cell_drew o_5) (frozen_drew g_5), frozen_later hq (cell_drew o_6) (frozen_drew g_6), frozen_later hq (cell_drew o_7) (frozen_drew g_7), frozen_later hq (cell_drew o_8) (frozen_drew g_8), below_two (Below.refl _ _).drew hq⟩)
                  have HZ1 : Hid (Pits wr.drew (.slice q1 P.length d1) (P.map Prod.fst)) := Lib.hid (HS1.out.later (Below.refl _ _).drew)
                  have HZ2 : Hid (Bools wr.drew (.slice q2 P.length d2) (P.map Prod.snd)) := Lib.hid (HS2.out.later (Below.refl _ _).drew)
                  go_still_tail 17, (by kernel_rfl)
                  change wpList _ _ _ _ _ wr.drew
                  go_wp2_with fail
                  refine (put_at HKK.out HRG.out HRX.out HLN.out _ _ wr.drew HZ1.out HZ2.out HSZ.out).mono ?_
                  rintro ed u5 ⟨up, ut, rfl, hps, hbs, hop, hot, hq⟩
                  have HUP := Lib.hid hps
                  have HUT := Lib.hid hbs
                  have HOP := Lib.hid hop
                  have HOT := Lib.hid hot
                  obtain ⟨ua, uc, eu, _⟩ := sl_shape hps
                  obtain ⟨va, vc, ev, _⟩ := sl_shape hbs
                  rw [List.length_map] at eu ev
                  subst eu ev
                  clear hps hbs hop hot
                  obtain ⟨n_0, n_1, n_2, n_3, n_4, n_5, n_6, n_7, n_8, v_0, v_1, v_2, v_3, v_4, v_5, v_6, v_7, v_8, hb5⟩ := RB.out _ hq
                  clear hq
                  clear o_0 g_0 o_1 g_1 o_2 g_2 o_3 g_3 o_4 g_4 o_5 g_5 o_6 g_6 o_7 g_7 o_8 g_8 gc1 gc2 hx0 hx1 hx2 ht0 RB HZ1 HZ2
                  obtain ⟨m0, m1, m2, m3, m4, m5, m6, m7, m8⟩ := put9_of (x0 := .int .i64 kk) (x1 := .slice ua (Evt.putL (x0, x1, x2) tk P).length uc) (x2 := .slice va (Evt.putL (x0, x1, x2) tk P).length vc) (x3 := .int .i64 bz) (x4 := .int .i64 dz) (x5 := .int .i64 nz) (x6 := .int .i64 ez) (x7 := .slice none 0 0) (x8 := .string str) n_0 n_1 n_2 n_3 n_4 n_5 n_6 n_7 n_8
                  go_wp2
                  go_roundw
                  case rel => exact ⟨r + 1, by omega, by go_num, by rw [HPT.out, ← List.append_assoc, Evt.putAll_snoc, HP.out]; exact OutC.puts (Evt.putL_ne _ _ _) hAi HUP.out HUT.out HOP.out HOT.out (HO.out.later hb5), set1_below (put9_below (below_two hBi hb5) (Nat.le_refl _)) (Nat.le_refl _), by have := hb5.size; simp; omega⟩
                  case measure => simp [intOf]; omega
                · obtain rfl : r = ps.length := by omega
                  have hge3 : ¬ (ps.length : Int) < (ps.length : Int) := by omega
                  have hPL : (Evt.pts (⟨k, ps, ts, b, d, n, e0, ms, str⟩ : Ev)).take ps.length = Evt.pts (⟨k, ps, ts, b, d, n, e0, ms, str⟩ : Ev) := List.take_of_length_le (by unfold Evt.pts; rw [List.length_zip]; exact Nat.min_le_left _ _)
                  have HO2 := Lib.hid (show OutC wq.heap.size (Evt.putAll [] (Evt.fl ((ys.take (q + 1)).map Prod.fst))) bz dz nz ez (Evt.fw ((ys.take (q + 1)).map Prod.fst)) wr by
                    rw [List.map_take, HFL.out, HFW2.out, ← hPL]; exact HO.out)
                  clear hPL HO HKK HS1 HS2 o_0 o_1 o_2
                  go_wp2
                  go_roundw
                  case rel => exact ⟨q + 1, by omega, by go_num, by rw [List.map_take]; exact Evt.all_take HMap.out (by rw [← List.map_take]; exact HV.out) HSV.out, HO2.out, hBi, hAi⟩
                  case measure => simp [intOf]; omega
            · have ht2 : ¬ S.toList = [] := by rw [ByteArray.toList_eq]; intro e; exact hs0 (by have := congrArg List.length e; simpa using this)
              have ht : (S.toList == ([] : List UInt8)) = false := by cases hl : S.toList with | nil => exact absurd hl ht2 | cons a l => rfl
              have ht3 : (!S.toList.isEmpty) = true := by cases hl : S.toList with | nil => exact absurd hl ht2 | cons a l => rfl
              have ht4 : S.toList.isEmpty = false := by cases hl : S.toList with | nil => exact absurd hl ht2 | cons a l => rfl
              have HFW2 : Hid (Evt.fw ((ys.map Prod.fst).take (q + 1)) = S) := Lib.hid (by rw [HFW.out, HS.out, if_neg hs0])
              have HSZ : Hid (S.size ≤ 140737488355328) := Lib.hid (by
                rw [← HS.out]
                have h := Evt.fw_word (l := (ys.map Prod.fst).take q) fun x hx => by
                  obtain ⟨y, hy, e⟩ := List.mem_map.1 (List.mem_of_mem_take hx)
                  rw [← e]; exact HIR.out y hy
                unfold Evt.wordR at h
                rw [Bool.and_eq_true, decide_eq_true_iff] at h
                omega)
              clear HFW
              go_upto_region 16 with fail
              have hO9 := HO8.out
              have hB9 := hB8
              have hA9 := hA8
              clear HO8 hB8 hA8 o_8 g_8 ht ht2 ht3 ht4 hs0 hc1 hc2 hc8
              obtain ⟨w9, hw9⟩ : ∃ x, x = w8 := ⟨_, rfl⟩
              subst hw9
              go_wp2
              go_loopw [7] (fun i wr => ∃ r : Nat, r ≤ ps.length ∧ i = .int .i64 (r : Int) ∧ OutC wq.heap.size (Evt.putAll [] (Evt.fl ((ys.map Prod.fst).take q) ++ (Evt.pts (⟨k, ps, ts, b, d, n, e0, ms, str⟩ : Ev)).take r)) bz dz nz ez S wr ∧ Below wq.heap.size wq wr ∧ wq.heap.size < wr.heap.size) (fun i _ => ps.length - (intOf i).toNat)
              case atStart => exact ⟨0, Nat.zero_le _, rfl, by rw [List.take_zero, List.append_nil]; exact hO9, hB9, hA9⟩
              case round =>
                clear hO9 hB9 hA9
                obtain ⟨r, hr, rfl, hO, hBi, hAi⟩ := hrel
                obtain ⟨kk, q1, d1, q2, d2, hkk, o_0, o_1, o_2, hS1, hS2, hO1, hO2⟩ := hO.ex
                have HO := Lib.hid hO
                have HKK := Lib.hid hkk
                have HS1 := Lib.hid hS1
                have HS2 := Lib.hid hS2
                clear hO hkk hS1 hS2 hO1 hO2
                have hBw : Below w.heap.size w wr := below_two hBq hBi
                obtain ⟨bl, ol, el, gc0, gc1, gc2, gc3, gc4, gc5, gc6, gc7, gc8⟩ := evs_at HC.out HY.out
                cases el
                dsimp only at gc1 gc2
                clear gc0 gc3 gc4 gc5 gc6 gc7 gc8
                replace gc1 := cell_later hBw gc1
                replace gc2 := cell_later hBw gc2
                have hTL : ts.length = ps.length := HIY.out.len
                have n8 : ps.length ≤ 8 := HIY.out.max8
                by_cases hlt3 : r < ps.length
                · obtain ⟨x, hx⟩ : ∃ x, ps[r]? = some x := ⟨_, List.getElem?_eq_getElem hlt3⟩
                  obtain ⟨tk, ht⟩ : ∃ y, ts[r]? = some y := ⟨_, List.getElem?_eq_getElem (by omega)⟩
                  obtain ⟨bp, op, ex, hx0, hx1, hx2⟩ := pits_at (HYR.out.later hBw).ps hx
                  cases ex
                  obtain ⟨bt, ot, et, ht0⟩ := bools_at (HYR.out.later hBw).ts ht
                  cases et
                  have HRX : Hid (Evt.rgt x = true) := Lib.hid (List.all_eq_true.1 HIY.out.rgts _ (List.mem_of_getElem? hx))
                  have HPT : Hid ((Evt.pts (⟨k, ps, ts, b, d, n, e0, ms, str⟩ : Ev)).take (r + 1) = (Evt.pts (⟨k, ps, ts, b, d, n, e0, ms, str⟩ : Ev)).take r ++ [(x, tk)]) := Lib.hid (take_succ_at (Evt.pts_get hx ht))
                  clear hx ht
                  obtain ⟨x0, x1, x2⟩ := x
                  dsimp only at hx0 hx1 hx2
                  have hltI3 : (r : Int) < (ps.length : Int) := by omega
                  have hltT3 : (r : Int) < (ts.length : Int) := by omega
                  have hltT4 : r < ts.length := by omega
                  have o_3 := HO.out.c3
                  have o_4 := HO.out.c4
                  have o_5 := HO.out.c5
                  have o_6 := HO.out.c6
                  have o_7 := HO.out.c7
                  have o_8 := HO.out.c8
                  have g_0 := HO.out.f0
                  have g_1 := HO.out.f1
                  have g_2 := HO.out.f2
                  have g_3 := HO.out.f3
                  have g_4 := HO.out.f4
                  have g_5 := HO.out.f5
                  have g_6 := HO.out.f6
                  have g_7 := HO.out.f7
                  have g_8 := HO.out.f8
                  generalize hP : (Evt.putAll [] (Evt.fl ((ys.map Prod.fst).take q) ++ (Evt.pts (⟨k, ps, ts, b, d, n, e0, ms, str⟩ : Ev)).take r)) = P at *
                  have HP := Lib.hid hP
                  clear hP
                  have HRG : Hid (Evt.RgtT P) := Lib.hid (by
                    rw [← HP.out]
                    refine (Evt.putAll_good (a := []) ?_ (by intro x hx; simp at hx) (by simp [Evt.AscT])).1
                    refine Evt.rgtT_prefix (n := (Evt.pts (⟨k, ps, ts, b, d, n, e0, ms, str⟩ : Ev)).drop r) ((HFL.out ▸ (by rw [← List.map_take]; exact all_pref HIR.out)) : Evt.RgtT (Evt.fl ((ys.map Prod.fst).take q) ++ Evt.pts (⟨k, ps, ts, b, d, n, e0, ms, str⟩ : Ev))) ?_
                    rw [List.append_assoc, List.take_append_drop])
                  have HLN : Hid (P.length ≤ 1000) := Lib.hid (by
                    rw [← HP.out]
                    have h1 := Evt.putAll_length (Evt.fl ((ys.map Prod.fst).take q) ++ (Evt.pts (⟨k, ps, ts, b, d, n, e0, ms, str⟩ : Ev)).take r) []
                    have h2 : (Evt.fl ((ys.map Prod.fst).take (q + 1))).length ≤ 8 * ((ys.map Prod.fst).take (q + 1)).length := Evt.fl_length fun x hx => by
                      obtain ⟨y, hy, e⟩ := List.mem_map.1 (List.mem_of_mem_take hx)
                      rw [← e]; exact HIR.out y hy
                    rw [HFL.out, List.length_append] at h2
                    rw [List.length_append, List.length_take] at h1
                    have h3 := H6.out
                    rw [List.length_take, List.length_map] at h2
                    simp only [List.length_nil] at h1
                    omega)
                  go_wp2_with fail
                  have RB : Hid (∀ u, Below wr.drew.heap.size wr.drew u → u.cell? ⟨wq.heap.size, 0, none⟩ = some (.int .i64 kk) ∧ u.cell? ⟨wq.heap.size, 1, none⟩ = some (.slice q1 P.length d1) ∧ u.cell? ⟨wq.heap.size, 2, none⟩ = some (.slice q2 P.length d2) ∧ u.cell? ⟨wq.heap.size, 3, none⟩ = some (.int .i64 bz) ∧ u.cell? ⟨wq.heap.size, 4, none⟩ = some (.int .i64 dz) ∧ u.cell? ⟨wq.heap.size, 5, none⟩ = some (.int .i64 nz) ∧ u.cell? ⟨wq.heap.size, 6, none⟩ = some (.int .i64 ez) ∧ u.cell? ⟨wq.heap.size, 7, none⟩ = some (.slice none 0 0) ∧ u.cell? ⟨wq.heap.size, 8, none⟩ = some (.string S) ∧ u.frozen? ⟨wq.heap.size, 0, none⟩ = false ∧ u.frozen? ⟨wq.heap.size, 1, none⟩ = false ∧ u.frozen? ⟨wq.heap.size, 2, none⟩ = false ∧ u.frozen? ⟨wq.heap.size, 3, none⟩ = false ∧ u.frozen? ⟨wq.heap.size, 4, none⟩ = false ∧ u.frozen? ⟨wq.heap.size, 5, none⟩ = false ∧ u.frozen? ⟨wq.heap.size, 6, none⟩ = false ∧ u.frozen? ⟨wq.heap.size, 7, none⟩ = false ∧ u.frozen? ⟨wq.heap.size, 8, none⟩ = false ∧ Below wr.heap.size wr u) := Lib.hid (fun u hq => ⟨cell_later hq (cell_drew o_0), cell_later hq (cell_drew o_1), cell_later hq (cell_drew o_2), cell_later hq (cell_drew o_3), cell_later hq (cell_drew o_4), cell_later hq (cell_drew o_5), cell_later hq (cell_drew o_6), cell_later hq (cell_drew o_7), cell_later hq (cell_drew o_8), frozen_later hq (cell_drew o_0) (frozen_drew g_0), frozen_later hq (cell_drew o_1) (frozen_drew g_1), frozen_later hq (cell_drew o_2) (frozen_drew g_2), frozen_later hq (cell_drew o_3) (frozen_drew g_3), frozen_later hq (cell_drew o_4) (frozen_drew g_4), frozen_later hq (cell_drew o_5) (frozen_drew g_5), frozen_later hq (cell_drew o_6) (frozen_drew g_6), frozen_later hq (cell_drew o_7) (frozen_drew g_7), frozen_later hq (cell_drew o_8) (frozen_drew g_8), below_two (Below.refl _ _).drew hq⟩)
                  have HZ1 : Hid (Pits wr.drew (.slice q1 P.length d1) (P.map Prod.fst)) := Lib.hid (HS1.out.later (Below.refl _ _).drew)
                  have HZ2 : Hid (Bools wr.drew (.slice q2 P.length d2) (P.map Prod.snd)) := Lib.hid (HS2.out.later (Below.refl _ _).drew)
                  go_still_tail 17, (by kernel_rfl)
                  change wpList _ _ _ _ _ wr.drew
                  go_wp2_with fail
                  refine (put_at HKK.out HRG.out HRX.out HLN.out _ _ wr.drew HZ1.out HZ2.out HSZ.out).mono ?_
                  rintro ed u5 ⟨up, ut, rfl, hps, hbs, hop, hot, hq⟩
                  have HUP := Lib.hid hps
                  have HUT := Lib.hid hbs
                  have HOP := Lib.hid hop
                  have HOT := Lib.hid hot
                  obtain ⟨ua, uc, eu, _⟩ := sl_shape hps
                  obtain ⟨va, vc, ev, _⟩ := sl_shape hbs
                  rw [List.length_map] at eu ev
                  subst eu ev
                  clear hps hbs hop hot
                  obtain ⟨n_0, n_1, n_2, n_3, n_4, n_5, n_6, n_7, n_8, v_0, v_1, v_2, v_3, v_4, v_5, v_6, v_7, v_8, hb5⟩ := RB.out _ hq
                  clear hq
                  clear o_0 g_0 o_1 g_1 o_2 g_2 o_3 g_3 o_4 g_4 o_5 g_5 o_6 g_6 o_7 g_7 o_8 g_8 gc1 gc2 hx0 hx1 hx2 ht0 RB HZ1 HZ2
                  obtain ⟨m0, m1, m2, m3, m4, m5, m6, m7, m8⟩ := put9_of (x0 := .int .i64 kk) (x1 := .slice ua (Evt.putL (x0, x1, x2) tk P).length uc) (x2 := .slice va (Evt.putL (x0, x1, x2) tk P).length vc) (x3 := .int .i64 bz) (x4 := .int .i64 dz) (x5 := .int .i64 nz) (x6 := .int .i64 ez) (x7 := .slice none 0 0) (x8 := .string S) n_0 n_1 n_2 n_3 n_4 n_5 n_6 n_7 n_8
                  go_wp2
                  go_roundw
                  case rel => exact ⟨r + 1, by omega, by go_num, by rw [HPT.out, ← List.append_assoc, Evt.putAll_snoc, HP.out]; exact OutC.puts (Evt.putL_ne _ _ _) hAi HUP.out HUT.out HOP.out HOT.out (HO.out.later hb5), set1_below (put9_below (below_two hBi hb5) (Nat.le_refl _)) (Nat.le_refl _), by have := hb5.size; simp; omega⟩
                  case measure => simp [intOf]; omega
                · obtain rfl : r = ps.length := by omega
                  have hge3 : ¬ (ps.length : Int) < (ps.length : Int) := by omega
                  have hPL : (Evt.pts (⟨k, ps, ts, b, d, n, e0, ms, str⟩ : Ev)).take ps.length = Evt.pts (⟨k, ps, ts, b, d, n, e0, ms, str⟩ : Ev) := List.take_of_length_le (by unfold Evt.pts; rw [List.length_zip]; exact Nat.min_le_left _ _)
                  have HO2 := Lib.hid (show OutC wq.heap.size (Evt.putAll [] (Evt.fl ((ys.take (q + 1)).map Prod.fst))) bz dz nz ez (Evt.fw ((ys.take (q + 1)).map Prod.fst)) wr by
                    rw [List.map_take, HFL.out, HFW2.out, ← hPL]; exact HO.out)
                  clear hPL HO HKK HS1 HS2 o_0 o_1 o_2
                  go_wp2
                  go_roundw
                  case rel => exact ⟨q + 1, by omega, by go_num, by rw [List.map_take]; exact Evt.all_take HMap.out (by rw [← List.map_take]; exact HV.out) HSV.out, HO2.out, hBi, hAi⟩
                  case measure => simp [intOf]; omega
        · have hqe : q = ys.length := by omega
          have HV2 : Hid ((ys.map Prod.fst).all (Evt.sameVal (⟨kz, psz, tsz, bz, dz, nz, ez, msz, strz⟩ : Ev)) = true) := Lib.hid (by have h := HV.out; rw [hqe, List.take_length] at h; exact h)
          have hO2 : OutC wq.heap.size (Evt.putAll [] (Evt.fl (ys.map Prod.fst))) bz dz nz ez (Evt.fw (ys.map Prod.fst)) wa := by have h := HO.out; rw [hqe, List.take_length] at h; exact h
          clear HV HO
          obtain ⟨S, hS⟩ : ∃ S, Hid (Evt.fw (ys.map Prod.fst) = S) := ⟨_, Lib.hid rfl⟩
          obtain ⟨P, hP⟩ : ∃ P, Hid (Evt.allP (ys.map Prod.fst) = P) := ⟨_, Lib.hid rfl⟩
          rw [hS.out, show Evt.putAll [] (Evt.fl (ys.map Prod.fst)) = P from hP.out] at hO2
          have hge2 : ¬ (q : Int) < (ys.length : Int) := by omega
          obtain ⟨kk, q1, d1, q2, d2, hkk, o_0, o_1, o_2, hS1, hS2, hO1, hO2'⟩ := hO2.ex
          have HKK := Lib.hid hkk
          have HS1 := Lib.hid hS1
          have HS2 := Lib.hid hS2
          have HO1 := Lib.hid hO1
          have HO2 := Lib.hid hO2'
          clear hkk hS1 hS2 hO1 hO2'
          have o_3 := hO2.c3
          have o_4 := hO2.c4
          have o_5 := hO2.c5
          have o_6 := hO2.c6
          have o_7 := hO2.c7
          have o_8 := hO2.c8
          have g_0 := hO2.f0
          have g_1 := hO2.f1
          have g_2 := hO2.f2
          have g_3 := hO2.f3
          have g_4 := hO2.f4
          have g_5 := hO2.f5
          have g_6 := hO2.f6
          have g_7 := hO2.f7
          have g_8 := hO2.f8
          have HCH : Hid (Evt.chordE (ys.map Prod.fst) = if Evt.right (⟨kk, P.map Prod.fst, P.map Prod.snd, bz, dz, nz, ez, (Evt.mkTo (ys.map Prod.fst) 4), S⟩ : Ev) = true then ((⟨kk, P.map Prod.fst, P.map Prod.snd, bz, dz, nz, ez, (Evt.mkTo (ys.map Prod.fst) 4), S⟩ : Ev), 0) else (Evt.zero, 60)) := Lib.hid (by
            have h1 := HAR.out
            have h2 := HV2.out
            have e1 : (⟨kk, P.map Prod.fst, P.map Prod.snd, bz, dz, nz, ez, (Evt.mkTo (ys.map Prod.fst) 4), S⟩ : Ev) = Evt.soFar (Evt.allP (ys.map Prod.fst)) (⟨kz, psz, tsz, bz, dz, nz, ez, msz, strz⟩ : Ev) (Evt.mk (ys.map Prod.fst)) (Evt.fw (ys.map Prod.fst)) := by rw [hP.out, hS.out, HKK.out]; rfl
            rw [e1]
            rw [HCONS.out, List.map_cons] at h1 h2 ⊢
            rw [Evt.chordE_cons, h1, h2]
            rfl)
          have HSZ : Hid (S.size ≤ 140737488355328) := Lib.hid (by
            rw [← hS.out]
            have h := Evt.fw_word (l := (ys.map Prod.fst)) fun x hx => by
              obtain ⟨y, hy, e⟩ := List.mem_map.1 hx
              rw [← e]; exact HIR.out y hy
            unfold Evt.wordR at h
            rw [Bool.and_eq_true, decide_eq_true_iff] at h
            omega)
          have s_0 := cell_later hBr r_0
          have sf_0 := frozen_later hBr r_0 rf_0
          have s_1 := cell_later hBr r_1
          have sf_1 := frozen_later hBr r_1 rf_1
          have s_2 := cell_later hBr r_2
          have sf_2 := frozen_later hBr r_2 rf_2
          have s_3 := cell_later hBr r_3
          have sf_3 := frozen_later hBr r_3 rf_3
          have s_4 := cell_later hBr r_4
          have sf_4 := frozen_later hBr r_4 rf_4
          have s_5 := cell_later hBr r_5
          have sf_5 := frozen_later hBr r_5 rf_5
          have s_6 := cell_later hBr r_6
          have sf_6 := frozen_later hBr r_6 rf_6
          have s_7 := cell_later hBr r_7
          have sf_7 := frozen_later hBr r_7 rf_7
          have s_8 := cell_later hBr r_8
          have sf_8 := frozen_later hBr r_8 rf_8
          clear r_0 rf_0 r_1 rf_1 r_2 rf_2 r_3 rf_3 r_4 rf_4 r_5 rf_5 r_6 rf_6 r_7 rf_7 r_8 rf_8 hO2
          obtain ⟨iI, hiI, hI0, hI1, hI2⟩ := info_parts infoI
          go_wp2
          go_loopw [8] (fun i wr => ∃ (j : Nat) (vm : Value), j ≤ 4 ∧ i = .int .i64 ((j : Int) + 1) ∧ wr.ownsRow wa.heap.size 3 1 vm (Evt.mkTo (ys.map Prod.fst) j).length ((Evt.mkTo (ys.map Prod.fst) j).flatMap encI) ∧ wr.cell? ⟨wq.heap.size, 7, none⟩ = some vm ∧ wr.frozen? ⟨wq.heap.size, 7, none⟩ = false ∧ FrO wq.heap.size 7 wa wr ∧ wa.heap.size ≤ wr.heap.size ∧ Below wq.heap.size wq wr) (fun i _ => 5 - (intOf i).toNat)
          case atStart => exact ⟨0, _, by omega, rfl, World.ownsRow_nil _ _ _ _, o_7, g_7, FrO.refl _ _ _, Nat.le_refl _, hBr⟩
          case round =>
            obtain ⟨j, vm, hj, rfl, hown, h7, h7f, hfr, hsz, hBb⟩ := hrel
            obtain ⟨wb, hwb⟩ : ∃ x, x = wr := ⟨_, rfl⟩
            subst hwb
            obtain ⟨pm, cm, rfl⟩ := own_shape2 hown
            have HOW := Lib.hid hown
            have HFR := Lib.hid hfr
            clear hown hfr
            by_cases hlt4 : j < 4
            · have hle : (j : Int) + 1 ≤ 4 := by omega
              go_wp2
              go_loopw [9, 10] (fun a i wr => ∃ t : Nat, t ≤ ys.length ∧ i = .int .i64 (t : Int) ∧ a = .bool (((ys.map Prod.fst).take t).any fun x => x.ms.contains ((j : Int) + 1)) ∧ wr.ownsRow wa.heap.size 3 1 (.slice pm (Evt.mkTo (ys.map Prod.fst) j).length cm) (Evt.mkTo (ys.map Prod.fst) j).length ((Evt.mkTo (ys.map Prod.fst) j).flatMap encI) ∧ wr.cell? ⟨wq.heap.size, 7, none⟩ = some (.slice pm (Evt.mkTo (ys.map Prod.fst) j).length cm) ∧ wr.frozen? ⟨wq.heap.size, 7, none⟩ = false ∧ FrO wq.heap.size 7 wa wr ∧ wa.heap.size ≤ wr.heap.size ∧ Below wq.heap.size wq wr) (fun _ i _ => ys.length - (intOf i).toNat)
              case atStart => exact ⟨0, Nat.zero_le _, rfl, rfl, HOW.out, h7, h7f, HFR.out, hsz, hBb⟩
              case round =>
                clear h7 h7f hsz hBb HOW HFR
                obtain ⟨t, ht, rfl, ha, hown, h7, h7f, hfr, hsz, hBb⟩ := hrel
                subst ha
                have HOW := Lib.hid hown
                have HFR := Lib.hid hfr
                clear hown hfr
                have hBw := below_two hBq hBb
                by_cases hlt : t < ys.length
                · obtain ⟨y, hy⟩ : ∃ y, ys[t]? = some y := ⟨_, List.getElem?_eq_getElem hlt⟩
                  have hyR := HC.out.each y (List.mem_of_getElem? hy)
                  have hIR := HIR.out y (List.mem_of_getElem? hy)
                  obtain ⟨p1, c1, p2, c2, p3, c3, hys⟩ := evs_shape hyR
                  have hat := evs_at HC.out hy
                  generalize y.1 = x at *
                  subst hys
                  obtain ⟨k, ps, ts, b, d, n, e0, ms, str⟩ := x
                  obtain ⟨b1, o1, e1, hc0, hc1, hc2, hc3, hc4, hc5, hc6, hc7, hc8⟩ := hat
                  cases e1
                  dsimp only at hyR hc0 hc1 hc2 hc3 hc4 hc5 hc6 hc7 hc8
                  have HY := Lib.hid hy
                  have HIY := Lib.hid hIR
                  have HYR := Lib.hid hyR
                  have hltI : ((t : Nat) : Int) < (ys.length : Int) := by omega
                  clear hy hyR hIR
                  clear hc0
                  clear hc1
                  clear hc2
                  clear hc3
                  clear hc4
                  clear hc5
                  clear hc6
                  replace hc7 := cell_later hBw hc7
                  clear hc8
                  have HMap : Hid ((ys.map Prod.fst)[t]? = some (⟨k, ps, ts, b, d, n, e0, ms, str⟩ : Ev)) := Lib.hid (by rw [List.getElem?_map, HY.out]; rfl)
                  cases ha : ((ys.map Prod.fst).take t).any fun x => x.ms.contains ((j : Int) + 1)
                  · have HA := Lib.hid ha
                    clear ha
                    cases hc : ms.contains ((j : Int) + 1)
                    all_goals
                      go_wp2_with fail
                      refine (has_is hc _ _ (HYR.out.ms.later hBw)).mono ?_
                      rintro e w3 ⟨rfl, hb3⟩
                      have HC3 := Lib.hid hc
                      clear hc hc7
                      have hl3 := HFR.out.later (hb3.mono hsz)
                      have ho3 := own_later HOW.out hb3
                      have h73 := cell_later hb3 h7
                      have h7f3 := frozen_later hb3 h7 h7f
                      have hs3 := hb3.size
                      have hB3 := below_two hBb hb3
                      clear hb3 h7 h7f HFR HOW
                      go_wp2
                      go_roundw
                      case rel => exact ⟨t + 1, by omega, by go_num, by rw [Evt.any_take HMap.out, HA.out]; simp only [HC3.out]; rfl, ho3, h73, h7f3, hl3, by omega, hB3⟩
                      case measure => simp [intOf]; omega
                  · have HA := Lib.hid ha
                    clear ha
                    go_wp2
                    go_roundw
                    case rel => exact ⟨t + 1, by omega, by go_num, by rw [Evt.any_take HMap.out, HA.out]; rfl, HOW.out, h7, h7f, HFR.out, hsz, hBb⟩
                    case measure => simp [intOf]; omega
                · have hte : t = ys.length := by omega
                  have hge3 : ¬ (t : Int) < (ys.length : Int) := by omega
                  have hAA : ((ys.map Prod.fst).take t).any (fun x => x.ms.contains ((j : Int) + 1)) = (ys.map Prod.fst).any (fun x => x.ms.contains ((j : Int) + 1)) := by rw [List.take_of_length_le (by rw [List.length_map]; omega)]
                  rw [hAA]
                  clear hAA hte
                  have HMS := Lib.hid (Evt.mkTo_succ (ys.map Prod.fst) hlt4)
                  have HML := Lib.hid (Evt.mkTo_length (ys.map Prod.fst) j)
                  generalize hmm : (Evt.mkTo (ys.map Prod.fst) j) = mj at *
                  have hml : mj.length ≤ 4 := HML.out
                  cases ha : (ys.map Prod.fst).any fun x => x.ms.contains ((j : Int) + 1)
                  · have HA := Lib.hid ha
                    rw [ha] at HMS
                    clear ha
                    go_wp2
                    go_roundw
                    case rel => exact ⟨j + 1, _, by omega, by go_num, by rw [HMS.out]; simpa using HOW.out, h7, h7f, HFR.out, hsz, hBb⟩
                    case measure => simp [intOf]; omega
                  · have HA := Lib.hid ha
                    rw [ha] at HMS
                    clear ha
                    go_wp2_with (first
                      | (at_builtin; refine wpList_append_own_at _ rfl _ _ 26 rfl wa.heap.size 3 iI (.int .i64 0) 1 8 Tryd.underlying26 hiI hI0 hI1 hI2 rfl (by decide) _ _ _ rfl (HOW.out.alloc _) ⟨wr.heap.size, 0, none⟩ 1 1 [.int .i64 ((j : Int) + 1)] rfl rfl (cells1_new _ _ _ rfl) (oneI1 _) (by unfold maxLen; omega) (by omega) (by simp; omega) ?_; intro v' w4 hown4 hgrow _ _; have hb4 := push_below HOW.out (Below.refl _ _) hsz hgrow; obtain ⟨pn, cn, rfl⟩ := own_shape2 hown4; have hA7 := (hb4.cell (p := ⟨wq.heap.size, 7, none⟩) hAr).trans h7; have hF7 := (hb4.frozen (p := ⟨wq.heap.size, 7, none⟩) hAr).trans h7f; have HN4 := Lib.hid hown4; have HB4 := Lib.hid hb4; clear hown4 hgrow hb4)
                      | fail)
                    have hs4 := HB4.out.size
                    go_wp2
                    go_roundw
                    case rel => exact ⟨j + 1, _, by omega, by go_num, own_set (by rw [HMS.out]; rw [List.length_append, List.flatMap_append]; simpa [encI] using HN4.out) hAr, set_same (held_of hA7), set_frozen hF7, (HFR.out.later HB4.out).set, by simp; omega, set1_below (hBb.trans (HB4.out.mono (by omega))) (Nat.le_refl _)⟩
                    case measure => simp [intOf]; omega
            · have hj4 : j = 4 := by omega
              subst hj4
              have hge4 : ¬ (((4 : Nat) : Int) + 1 ≤ 4) := by omega
              have HM4 := Lib.hid (Evt.mkTo_length (ys.map Prod.fst) 4)
              generalize hmm : (Evt.mkTo (ys.map Prod.fst) 4) = ml at *
              clear hmm
              have HPS : Hid (Pits wb (.slice q1 P.length d1) (P.map Prod.fst)) := Lib.hid (HFR.out.sl HS1.out HO1.out)
              have HTS : Hid (Bools wb (.slice q2 P.length d2) (P.map Prod.snd)) := Lib.hid (HFR.out.sl HS2.out HO2.out)
              have HMS : Hid (Ints wb (.slice pm ml.length cm) ml) := Lib.hid (row_sl lenI rfl (by have := HM4.out; omega) HOW.out)
              have HOM := Lib.hid (own_row HOW.out)
              have hBw := below_two hBq hBb
              clear g_0 g_1 g_2 g_3 g_4 g_5 g_6 g_7 g_8 o_7
              replace o_0 := (HFR.out _ _ _ (Or.inr (by decide)) o_0).1
              replace o_1 := (HFR.out _ _ _ (Or.inr (by decide)) o_1).1
              replace o_2 := (HFR.out _ _ _ (Or.inr (by decide)) o_2).1
              replace o_3 := (HFR.out _ _ _ (Or.inr (by decide)) o_3).1
              replace o_4 := (HFR.out _ _ _ (Or.inr (by decide)) o_4).1
              replace o_5 := (HFR.out _ _ _ (Or.inr (by decide)) o_5).1
              replace o_6 := (HFR.out _ _ _ (Or.inr (by decide)) o_6).1
              replace o_8 := (HFR.out _ _ _ (Or.inr (by decide)) o_8).1
              replace sf_0 := (HFR.out _ _ _ (Or.inl (by omega)) s_0).2 sf_0
              replace s_0 := (HFR.out _ _ _ (Or.inl (by omega)) s_0).1
              replace sf_1 := (HFR.out _ _ _ (Or.inl (by omega)) s_1).2 sf_1
              replace s_1 := (HFR.out _ _ _ (Or.inl (by omega)) s_1).1
              replace sf_2 := (HFR.out _ _ _ (Or.inl (by omega)) s_2).2 sf_2
              replace s_2 := (HFR.out _ _ _ (Or.inl (by omega)) s_2).1
              replace sf_3 := (HFR.out _ _ _ (Or.inl (by omega)) s_3).2 sf_3
              replace s_3 := (HFR.out _ _ _ (Or.inl (by omega)) s_3).1
              replace sf_4 := (HFR.out _ _ _ (Or.inl (by omega)) s_4).2 sf_4
              replace s_4 := (HFR.out _ _ _ (Or.inl (by omega)) s_4).1
              replace sf_5 := (HFR.out _ _ _ (Or.inl (by omega)) s_5).2 sf_5
              replace s_5 := (HFR.out _ _ _ (Or.inl (by omega)) s_5).1
              replace sf_6 := (HFR.out _ _ _ (Or.inl (by omega)) s_6).2 sf_6
              replace s_6 := (HFR.out _ _ _ (Or.inl (by omega)) s_6).1
              replace sf_7 := (HFR.out _ _ _ (Or.inl (by omega)) s_7).2 sf_7
              replace s_7 := (HFR.out _ _ _ (Or.inl (by omega)) s_7).1
              replace sf_8 := (HFR.out _ _ _ (Or.inl (by omega)) s_8).2 sf_8
              replace s_8 := (HFR.out _ _ _ (Or.inl (by omega)) s_8).1
              cases hR : Evt.right (⟨kk, P.map Prod.fst, P.map Prod.snd, bz, dz, nz, ez, ml, S⟩ : Ev)
              all_goals
                go_wp2_with fail
                refine (refERight_is hR _ _ _ _ ⟨HPS.out, HTS.out, HMS.out, HSZ.out⟩).mono ?_
                rintro e w9 ⟨rfl, hb9⟩
                have HRR := Lib.hid hR
                clear hR
                replace HPS := Lib.hid (HPS.out.later hb9)
                replace HTS := Lib.hid (HTS.out.later hb9)
                replace HMS := Lib.hid (HMS.out.later hb9)
                replace o_0 := cell_later hb9 o_0
                replace o_1 := cell_later hb9 o_1
                replace o_2 := cell_later hb9 o_2
                replace o_3 := cell_later hb9 o_3
                replace o_4 := cell_later hb9 o_4
                replace o_5 := cell_later hb9 o_5
                replace o_6 := cell_later hb9 o_6
                replace o_8 := cell_later hb9 o_8
                replace sf_0 := frozen_later hb9 s_0 sf_0
                replace s_0 := cell_later hb9 s_0
                replace sf_1 := frozen_later hb9 s_1 sf_1
                replace s_1 := cell_later hb9 s_1
                replace sf_2 := frozen_later hb9 s_2 sf_2
                replace s_2 := cell_later hb9 s_2
                replace sf_3 := frozen_later hb9 s_3 sf_3
                replace s_3 := cell_later hb9 s_3
                replace sf_4 := frozen_later hb9 s_4 sf_4
                replace s_4 := cell_later hb9 s_4
                replace sf_5 := frozen_later hb9 s_5 sf_5
                replace s_5 := cell_later hb9 s_5
                replace sf_6 := frozen_later hb9 s_6 sf_6
                replace s_6 := cell_later hb9 s_6
                replace sf_7 := frozen_later hb9 s_7 sf_7
                replace s_7 := cell_later hb9 s_7
                replace sf_8 := frozen_later hb9 s_8 sf_8
                replace s_8 := cell_later hb9 s_8
                replace h7 := cell_later hb9 h7
                have hB9 := below_two hBw hb9
                clear hb9
              · have HU : Hid (Evt.chordE (ys.map Prod.fst) = (Evt.zero, 60)) := Lib.hid (by rw [HCH.out, HRR.out]; rfl)
                obtain ⟨m0, m1, m2, m3, m4, m5, m6, m7, m8⟩ := put9_of (x0 := .int .i64 0) (x1 := .slice none 0 0) (x2 := .slice none 0 0) (x3 := .int .i64 0) (x4 := .int .i64 0) (x5 := .int .i64 0) (x6 := .int .i64 0) (x7 := .slice none 0 0) (x8 := .string ⟨#[]⟩) s_0 s_1 s_2 s_3 s_4 s_5 s_6 s_7 s_8
                go_wp2
                rw [HU.out]
                exact bodyPost_ret (v := .tuple #[.agg #[.int .i64 0, .slice none 0 0, .slice none 0 0, .int .i64 0, .int .i64 0, .int .i64 0, .int .i64 0, .slice none 0 0, .string ⟨#[]⟩], .int .i64 60]) (by simp [results, Tryd.results19, go_sem, m0, m1, m2, m3, m4, m5, m6, m7, m8]) rfl (evRes_zero rfl (put9_below hB9 (by omega)))
              · have HU : Hid (Evt.chordE (ys.map Prod.fst) = ((⟨kk, P.map Prod.fst, P.map Prod.snd, bz, dz, nz, ez, ml, S⟩ : Ev), 0)) := Lib.hid (by rw [HCH.out, HRR.out]; rfl)
                obtain ⟨m0, m1, m2, m3, m4, m5, m6, m7, m8⟩ := put9_of (x0 := .int .i64 kk) (x1 := .slice q1 P.length d1) (x2 := .slice q2 P.length d2) (x3 := .int .i64 bz) (x4 := .int .i64 dz) (x5 := .int .i64 nz) (x6 := .int .i64 ez) (x7 := .slice pm ml.length cm) (x8 := .string S) s_0 s_1 s_2 s_3 s_4 s_5 s_6 s_7 s_8
                go_wp2
                rw [HU.out]
                exact bodyPost_ret (v := .tuple #[.agg #[.int .i64 kk, .slice q1 P.length d1, .slice q2 P.length d2, .int .i64 bz, .int .i64 dz, .int .i64 nz, .int .i64 ez, .slice pm ml.length cm, .string S], .int .i64 0]) (by simp [results, Tryd.results19, go_sem, m0, m1, m2, m3, m4, m5, m6, m7, m8]) rfl ⟨_, _, _, rfl, put9_evr ⟨HPS.out, HTS.out, HMS.out, HSZ.out⟩ (HO1.out.mono (by omega)) (HO2.out.mono (by omega)) (HOM.out.mono (by omega)), put9_below hB9 (by omega)⟩
end Go.Proofs.YtnfnonlbokddfaaDoor
