/-
  The contract of the reference's Up.
-/
import Derived.Test.YtnfnonlbokddfaaDoorEvRefR
import Derived.Test.YtnfnonlbokddfaaDoorEvI
import Derived.Test.YtnfnonlbokddfaaDoorEvE
import Derived.Maps.AppendAt
import Derived.Deep.CutBlock
import Derived.Deep.DeepCutAuto
namespace Go.Proofs.YtnfnonlbokddfaaDoor
open Go.RowKit
open Evt (P3 Ev)

section
variable {P : Program} (w : World)
/-- A list that is appended to an empty one, at a step of a region that draws: the world is told outright. -/
theorem step_append_grow {ops : Array Oper} {o : Oper} {a : Act} {K : Act → World → Prop} {Q : Exit → Act → World → Prop} {E : Prop} (hgd : o.guard = none) (s x : Operand) (t : TypeId)
    (ho : o.op = .call { callee := .builtin .append, args := #[s, x], argTypes := #[t, t] })
    (e : TypeId) (i : TypeInfo) (z : Value) (size bytes : Nat) (ht : P.underlying t = some (.slice e)) (hi : P.info? e = some i) (hz : i.zero = some z)
    (hsize : i.size = size) (hby : i.bytes = bytes) (hb8 : bytes ≤ 100)
    (B : Nat) (hs : a.eval s = .slice (some ⟨B, 0, none⟩) 0 0) (ad : Addr) (n c : Nat) (news : List Value) (hx : a.eval x = .slice (some ad) n c)
    (hl : news.length = n * size) (hnews : ∀ (j : Nat) (u : Value), news[j]? = some u → w.cell? (ad.add j) = some u) (h0 : 0 < n) (hn : n ≤ 1000000)
    (h : ∀ (cap : Nat) (cs : Array Value), n ≤ cap → (∀ (j : Nat) (u : Value), news[j]? = some u → cs[j]? = some u) → K (a.put o.dst (.slice (some ⟨w.heap.size, 0, none⟩) n cap)) (w.drew.alloc (.cells cs e))) :
    if Region.wanted o (yielded ops a.tmps) = true then Oper.wp P o a w K Q else E := by
  rw [if_pos (by simp [Region.wanted, hgd])]
  subst hsize hby
  have hm : n * i.bytes ≤ 1000000 * 100 := Nat.mul_le_mul hn hb8
  have hr := run_append_grow (P := P) w t o.type e i z ht hi hz ⟨B, 0, none⟩ 0 0 ([] : List Value) (by simp) (by simp) ad n c news hl hnews (by omega) (by omega) (growslice_fits (by omega) (by rw [Nat.zero_add]; omega))
  rw [Nat.zero_add] at hr
  unfold Oper.wp execOp
  simp only [ho, resolve, invoke, builtin, Sem.run_bind, Sem.run_pure, Result.andThen_ok, List.map_toArray, List.map_cons, List.map_nil, hs, hx, hr]
  refine h _ _ (grownCap_ge w n 0 e) (fun j u hj => ?_)
  have hlt := (List.getElem?_eq_some_iff.1 hj).1
  rw [Array.getElem?_append_left (by simp; omega)]
  simpa using hj
/-- .. of nothing to an empty one. -/
theorem step_append_none {ops : Array Oper} {o : Oper} {a : Act} {K : Act → World → Prop} {Q : Exit → Act → World → Prop} {E : Prop} (hgd : o.guard = none) (s x : Operand) (t : TypeId)
    (ho : o.op = .call { callee := .builtin .append, args := #[s, x], argTypes := #[t, t] })
    (e : TypeId) (i : TypeInfo) (ht : P.underlying t = some (.slice e)) (hi : P.info? e = some i)
    (B : Nat) (hs : a.eval s = .slice (some ⟨B, 0, none⟩) 0 0) (p : Option Addr) (n c : Nat) (hx : a.eval x = .slice p n c) (hn : n = 0)
    (h : K (a.put o.dst (.slice (some ⟨B, 0, none⟩) n 0)) w) :
    if Region.wanted o (yielded ops a.tmps) = true then Oper.wp P o a w K Q else E := by
  subst hn
  rw [if_pos (by simp [Region.wanted, hgd])]
  have hr : (Builtin.append_ #[t, t] o.type #[.slice (some ⟨B, 0, none⟩) 0 0, .slice p 0 c]).run P w = .ok (.slice (some ⟨B, 0, none⟩) 0 0) w := by
    cases p <;> simp [Builtin.append_, run_underlying ht, sizeOf, typeInfo, hi, Builtin.lenOf, Builtin.firstCells, loadCells, loadCellsFrom, storeCells]
  unfold Oper.wp execOp
  simp only [ho, resolve, invoke, builtin, Sem.run_bind, Sem.run_pure, Result.andThen_ok, List.map_toArray, List.map_cons, List.map_nil, hs, hx, hr]
  exact h
theorem sl_zero {α : Type} {k : Nat} {enc : α → List Value} {W : World} {p : Option Addr} {l : List α} (h : l.length = 0) : Sl k enc W (.slice p l.length 0) l := by
  have e : l = [] := List.eq_nil_of_length_eq_zero h
  subst e
  exact ⟨p, 0, rfl, by simp, by simp, fun i x hx => by simp at hx⟩
theorem sl_cells {α : Type} {enc : α → List Value} (hk : ∀ x, (enc x).length = 1) {W : World} {B c : Nat} {l : List α} (cs : Array Value) (hs : ∀ (j : Nat) (u : Value), (l.flatMap enc)[j]? = some u → cs[j]? = some u) (hc : l.length ≤ c) (hl : l.length ≤ 140737488355328)
    (hW : ∀ (j : Nat) (u : Value), cs[j]? = some u → W.cell? ⟨B, j, none⟩ = some u) : Sl 1 enc W (.slice (some ⟨B, 0, none⟩) l.length c) l :=
  ⟨_, c, rfl, hl, hc, fun i x hi => ⟨B, 0, rfl, fun j u hu => by
    have hj : j < 1 := by rw [← hk x]; exact (List.getElem?_eq_some_iff.1 hu).1
    rw [Nat.zero_add]
    exact hW _ _ (hs _ _ ((flat_at hk l i x j hi hj).trans hu))⟩⟩
/-- But for one cell, what lay in the one world lies in the other. -/
def Fr (A : Nat) (wa wr : World) : Prop := ∀ b o v, (b ≠ A ∨ o ≠ 1) → wa.cell? ⟨b, o, none⟩ = some v → wr.cell? ⟨b, o, none⟩ = some v ∧ (wa.frozen? ⟨b, o, none⟩ = false → wr.frozen? ⟨b, o, none⟩ = false)
theorem Fr.refl (A : Nat) (wa : World) : Fr A wa wa := fun _ _ _ _ h => ⟨h, id⟩
theorem Fr.set {A : Nat} {wa wr w2 : World} {x : Value} (h : Fr A wa wr) (hb : Below wa.heap.size wr w2) : Fr A wa (w2.setCell ⟨A, 1, none⟩ x) := fun b o v hn hc => by
  have hlt : b < wa.heap.size := World.block_lt_of_cell? _ _ hc
  obtain ⟨h1, h2⟩ := h b o v hn hc
  have e1 := (hb.cell (p := ⟨b, o, none⟩) hlt).trans h1
  refine ⟨?_, fun hf => set_frozen ((hb.frozen (p := ⟨b, o, none⟩) hlt).trans (h2 hf))⟩
  by_cases hb' : b = A
  · subst hb'
    rcases hn with hn | hn
    · exact absurd rfl hn
    · exact set_beside (fun e => hn e.symm) e1
  · exact set_far hb' e1
theorem Fr.sl {A : Nat} {wa wr : World} (h : Fr A wa wr) {α : Type} {k : Nat} {enc : α → List Value} {v : Value} {l : List α} (hs : Sl k enc wa v l) (hn : v.ownBlock ≠ some A) : Sl k enc wr v l := by
  obtain ⟨p, cap, rfl, hl, hc, hx⟩ := hs
  refine ⟨p, cap, rfl, hl, hc, fun i y hi => ?_⟩
  obtain ⟨b, q, e, c⟩ := hx i y hi
  subst e
  refine ⟨b, q, rfl, fun j u hu => (h b _ u (Or.inl fun e => hn ?_) (c j u hu)).1⟩
  subst e; rfl
theorem refUpV_is {S H : Int} {p : P3} {v : Value} (h : upV (Evt.upP S H p) = v) (w : World) : Calls Tryd.prog 44 #[pt p.1 p.2.1 p.2.2, iv S H] w fun ed w' => ed = .returned v ∧ Below w.heap.size w w' := by rw [← h]; exact refUp_any _ _ _ _ _ w
theorem upP_cases (S H : Int) (p : P3) : ∃ q0 q1 q2 xe, upV (Evt.upP S H p) = pv q0 q1 q2 xe ∧ ((xe = 0 ∧ Evt.upP S H p = some (q0, q1, q2)) ∨ (xe = 20 ∧ Evt.upP S H p = none)) := by
  cases Evt.upP S H p with
  | none => exact ⟨0, 0, 0, 20, rfl, Or.inr ⟨rfl, rfl⟩⟩
  | some q => obtain ⟨a, b, c⟩ := q; exact ⟨a, b, c, 0, rfl, Or.inl ⟨rfl, rfl⟩⟩
/-- A pitch in a block of its own. -/
def AtQ (q0 q1 q2 : Int) (w0 : World) (p : Value) (wx : World) : Prop := ∃ A : Nat, p = .pointer (some ⟨A, 0, none⟩) ∧ wx.cell? ⟨A, 0, none⟩ = some (.int .i64 q0) ∧ wx.cell? ⟨A, 1, none⟩ = some (.int .i64 q1) ∧ wx.cell? ⟨A, 2, none⟩ = some (.int .i64 q2) ∧ Below w0.heap.size w0 wx
theorem own_shape {W : World} {base : Nat} {e : TypeId} {k n : Nat} {v : Value} {xs : List Value} (h : W.ownsRow base e k v n xs) : ∃ p c, v = .slice p n c := by
  rcases h.2 with ⟨rfl, h0⟩ | ⟨g, cap, cur, rfl, _⟩
  · exact ⟨_, _, by rw [h0]⟩
  · exact ⟨_, _, rfl⟩
theorem below_step3 {n : Nat} {wr wb w2 : World} {o : Obj} (h1 : Below wr.heap.size wr wb) (hn : n ≤ wr.heap.size) (h2 : Below n (wb.alloc o) w2) : Below n wr w2 := ((h1.mono hn).alloc (Nat.le_trans hn h1.size) o).trans h2
/-- The loop's state. -/
def UpAt (S H : Int) (ps : List P3) (A : Nat) (wn wa : World) (i : Value) (wr : World) : Prop := ∃ (j : Nat) (m : List P3) (v : Value), j ≤ ps.length ∧ i = .int .i64 (j : Int) ∧ Evt.lift S H (ps.take j) = some m ∧ m.length = j ∧ wr.ownsRow wa.heap.size 57 3 v j (m.flatMap encP) ∧
  wr.cell? ⟨A, 1, none⟩ = some v ∧ wr.frozen? ⟨A, 1, none⟩ = false ∧ Fr A wa wr ∧ wa.heap.size ≤ wr.heap.size ∧ Below wn.heap.size wn wr
/-- The event in a block of its own, ahead of the loop. -/
def OutAt (k b d n e0 : Int) (ts : List Bool) (ms : List Int) (str : ByteArray) (wa : World) (p : Value) (wx : World) : Prop := ∃ A pt ct pm cm, p = .pointer (some ⟨A, 0, none⟩) ∧ wa.heap.size ≤ A ∧ A < wx.heap.size ∧
  wx.cell? ⟨A, 0, none⟩ = some (.int .i64 k) ∧ wx.cell? ⟨A, 1, none⟩ = some (.slice none 0 0) ∧ wx.cell? ⟨A, 2, none⟩ = some (.slice pt ts.length ct) ∧ wx.cell? ⟨A, 3, none⟩ = some (.int .i64 b) ∧ wx.cell? ⟨A, 4, none⟩ = some (.int .i64 d) ∧ wx.cell? ⟨A, 5, none⟩ = some (.int .i64 n) ∧ wx.cell? ⟨A, 6, none⟩ = some (.int .i64 e0) ∧ wx.cell? ⟨A, 7, none⟩ = some (.slice pm ms.length cm) ∧ wx.cell? ⟨A, 8, none⟩ = some (.string str) ∧
  wx.frozen? ⟨A, 0, none⟩ = false ∧ wx.frozen? ⟨A, 1, none⟩ = false ∧ wx.frozen? ⟨A, 2, none⟩ = false ∧ wx.frozen? ⟨A, 3, none⟩ = false ∧ wx.frozen? ⟨A, 4, none⟩ = false ∧ wx.frozen? ⟨A, 5, none⟩ = false ∧ wx.frozen? ⟨A, 6, none⟩ = false ∧ wx.frozen? ⟨A, 7, none⟩ = false ∧ wx.frozen? ⟨A, 8, none⟩ = false ∧
  Bools wx (.slice pt ts.length ct) ts ∧ Ints wx (.slice pm ms.length cm) ms ∧ (Value.slice pt ts.length ct).ownBlock ≠ some A ∧ (Value.slice pm ms.length cm).ownBlock ≠ some A ∧ Own wa.heap.size (.slice pt ts.length ct) ∧ Own wa.heap.size (.slice pm ms.length cm) ∧ Below wa.heap.size wa wx
end

set_option maxRecDepth 100000 in
set_option maxHeartbeats 40000000 in
theorem refUp_no (x : Ev) (vp vt vm : Value) (S H : Int) (w : World) (h0 : EvR w vp vt vm x) (HQ : Hid (Evt.right x = false)) :
    Calls Tryd.prog 15 #[evv x vp vt vm, iv S H] w fun ed w' => ed = .returned (.tuple #[evz, .int .i64 60]) ∧ Below w.heap.size w w' := by
  obtain ⟨k, ps, ts, b, d, n, e0, ms, str⟩ := x
  have HX0 := Lib.hid h0
  obtain ⟨Pps, Cps, e1, _⟩ := sl_shape h0.ps
  obtain ⟨Pts, Cts, e2, _⟩ := sl_shape h0.ts
  obtain ⟨Pms, Cms, e3, _⟩ := sl_shape h0.ms
  dsimp only at e1 e2 e3
  subst e1 e2 e3
  clear h0
  have hB0 : Below w.heap.size w w := Below.refl _ _
  go_enter Tryd.func15, Tryd.ntmps15
  go_wp2_with fail
  refine (refERight_is HQ.out _ _ _ _ (HX0.out.later (((hB0.alloc hB0.size (.cells #[.int .i64 k, .slice Pps ps.length Cps, .slice Pts ts.length Cts, .int .i64 b, .int .i64 d, .int .i64 n, .int .i64 e0, .slice Pms ms.length Cms, .string str] 28)).alloc (hB0.alloc hB0.size (.cells #[.int .i64 k, .slice Pps ps.length Cps, .slice Pts ts.length Cts, .int .i64 b, .int .i64 d, .int .i64 n, .int .i64 e0, .slice Pms ms.length Cms, .string str] 28)).size (.cells #[.int .i64 S, .int .i64 H] 30)).alloc ((hB0.alloc hB0.size (.cells #[.int .i64 k, .slice Pps ps.length Cps, .slice Pts ts.length Cts, .int .i64 b, .int .i64 d, .int .i64 n, .int .i64 e0, .slice Pms ms.length Cms, .string str] 28)).alloc (hB0.alloc hB0.size (.cells #[.int .i64 k, .slice Pps ps.length Cps, .slice Pts ts.length Cts, .int .i64 b, .int .i64 d, .int .i64 n, .int .i64 e0, .slice Pms ms.length Cms, .string str] 28)).size (.cells #[.int .i64 S, .int .i64 H] 30)).size (.cells #[.int .i64 0, .slice none 0 0, .slice none 0 0, .int .i64 0, .int .i64 0, .int .i64 0, .int .i64 0, .slice none 0 0, .string ⟨#[]⟩] 28)))).mono ?_
  rintro e w1 ⟨rfl, hb1⟩
  have hs1 : Below w.heap.size w w1 := Below.trans (by repeat (first | exact Below.refl _ _ | refine Below.alloc ?_ (by simp <;> omega) _)) (hb1.mono (by simp <;> omega))
  have c_e_0 : w1.cell? ⟨w.heap.size, 0, none⟩ = some (.int .i64 k) := (hb1.cell (by simp <;> omega)).trans (by go_simp)
  have c_e_1 : w1.cell? ⟨w.heap.size, 1, none⟩ = some (.slice Pps ps.length Cps) := (hb1.cell (by simp <;> omega)).trans (by go_simp)
  have c_e_2 : w1.cell? ⟨w.heap.size, 2, none⟩ = some (.slice Pts ts.length Cts) := (hb1.cell (by simp <;> omega)).trans (by go_simp)
  have c_e_3 : w1.cell? ⟨w.heap.size, 3, none⟩ = some (.int .i64 b) := (hb1.cell (by simp <;> omega)).trans (by go_simp)
  have c_e_4 : w1.cell? ⟨w.heap.size, 4, none⟩ = some (.int .i64 d) := (hb1.cell (by simp <;> omega)).trans (by go_simp)
  have c_e_5 : w1.cell? ⟨w.heap.size, 5, none⟩ = some (.int .i64 n) := (hb1.cell (by simp <;> omega)).trans (by go_simp)
  have c_e_6 : w1.cell? ⟨w.heap.size, 6, none⟩ = some (.int .i64 e0) := (hb1.cell (by simp <;> omega)).trans (by go_simp)
  have c_e_7 : w1.cell? ⟨w.heap.size, 7, none⟩ = some (.slice Pms ms.length Cms) := (hb1.cell (by simp <;> omega)).trans (by go_simp)
  have c_e_8 : w1.cell? ⟨w.heap.size, 8, none⟩ = some (.string str) := (hb1.cell (by simp <;> omega)).trans (by go_simp)
  have c_g_0 : w1.cell? ⟨w.heap.size + 1, 0, none⟩ = some (.int .i64 S) := (hb1.cell (by simp <;> omega)).trans (by go_simp)
  have c_g_1 : w1.cell? ⟨w.heap.size + 1, 1, none⟩ = some (.int .i64 H) := (hb1.cell (by simp <;> omega)).trans (by go_simp)
  have c_r_0 : w1.cell? ⟨w.heap.size + 1 + 1, 0, none⟩ = some (.int .i64 0) := (hb1.cell (by simp <;> omega)).trans (by go_simp)
  have f_r_0 : w1.frozen? ⟨w.heap.size + 1 + 1, 0, none⟩ = false := (hb1.frozen (by simp <;> omega)).trans (by go_simp)
  have c_r_1 : w1.cell? ⟨w.heap.size + 1 + 1, 1, none⟩ = some (.slice none 0 0) := (hb1.cell (by simp <;> omega)).trans (by go_simp)
  have f_r_1 : w1.frozen? ⟨w.heap.size + 1 + 1, 1, none⟩ = false := (hb1.frozen (by simp <;> omega)).trans (by go_simp)
  have c_r_2 : w1.cell? ⟨w.heap.size + 1 + 1, 2, none⟩ = some (.slice none 0 0) := (hb1.cell (by simp <;> omega)).trans (by go_simp)
  have f_r_2 : w1.frozen? ⟨w.heap.size + 1 + 1, 2, none⟩ = false := (hb1.frozen (by simp <;> omega)).trans (by go_simp)
  have c_r_3 : w1.cell? ⟨w.heap.size + 1 + 1, 3, none⟩ = some (.int .i64 0) := (hb1.cell (by simp <;> omega)).trans (by go_simp)
  have f_r_3 : w1.frozen? ⟨w.heap.size + 1 + 1, 3, none⟩ = false := (hb1.frozen (by simp <;> omega)).trans (by go_simp)
  have c_r_4 : w1.cell? ⟨w.heap.size + 1 + 1, 4, none⟩ = some (.int .i64 0) := (hb1.cell (by simp <;> omega)).trans (by go_simp)
  have f_r_4 : w1.frozen? ⟨w.heap.size + 1 + 1, 4, none⟩ = false := (hb1.frozen (by simp <;> omega)).trans (by go_simp)
  have c_r_5 : w1.cell? ⟨w.heap.size + 1 + 1, 5, none⟩ = some (.int .i64 0) := (hb1.cell (by simp <;> omega)).trans (by go_simp)
  have f_r_5 : w1.frozen? ⟨w.heap.size + 1 + 1, 5, none⟩ = false := (hb1.frozen (by simp <;> omega)).trans (by go_simp)
  have c_r_6 : w1.cell? ⟨w.heap.size + 1 + 1, 6, none⟩ = some (.int .i64 0) := (hb1.cell (by simp <;> omega)).trans (by go_simp)
  have f_r_6 : w1.frozen? ⟨w.heap.size + 1 + 1, 6, none⟩ = false := (hb1.frozen (by simp <;> omega)).trans (by go_simp)
  have c_r_7 : w1.cell? ⟨w.heap.size + 1 + 1, 7, none⟩ = some (.slice none 0 0) := (hb1.cell (by simp <;> omega)).trans (by go_simp)
  have f_r_7 : w1.frozen? ⟨w.heap.size + 1 + 1, 7, none⟩ = false := (hb1.frozen (by simp <;> omega)).trans (by go_simp)
  have c_r_8 : w1.cell? ⟨w.heap.size + 1 + 1, 8, none⟩ = some (.string ⟨#[]⟩) := (hb1.cell (by simp <;> omega)).trans (by go_simp)
  have f_r_8 : w1.frozen? ⟨w.heap.size + 1 + 1, 8, none⟩ = false := (hb1.frozen (by simp <;> omega)).trans (by go_simp)
  have z_e : w.heap.size < _ := World.block_lt_of_cell? _ _ c_e_0
  have z_g : w.heap.size + 1 < _ := World.block_lt_of_cell? _ _ c_g_0
  have z_r : w.heap.size + 1 + 1 < _ := World.block_lt_of_cell? _ _ c_r_0
  have hB1 := below_two hB0 hs1
  clear hB0 hs1 hb1
  obtain ⟨m0, m1, m2, m3, m4, m5, m6, m7, m8⟩ := put9_of (x0 := .int .i64 0) (x1 := .slice none 0 0) (x2 := .slice none 0 0) (x3 := .int .i64 0) (x4 := .int .i64 0) (x5 := .int .i64 0) (x6 := .int .i64 0) (x7 := .slice none 0 0) (x8 := .string ⟨#[]⟩) c_r_0 c_r_1 c_r_2 c_r_3 c_r_4 c_r_5 c_r_6 c_r_7 c_r_8
  go_wp2
  exact bodyPost_ret (v := .tuple #[.agg #[.int .i64 0, .slice none 0 0, .slice none 0 0, .int .i64 0, .int .i64 0, .int .i64 0, .int .i64 0, .slice none 0 0, .string ⟨#[]⟩], .int .i64 60]) (by simp [results, Tryd.results15, go_sem, m0, m1, m2, m3, m4, m5, m6, m7, m8]) rfl ⟨rfl, put9_below hB1 (by omega)⟩

set_option maxRecDepth 100000 in
set_option maxHeartbeats 40000000 in
theorem refUp_walk (x : Ev) (vp vt vm : Value) (S H : Int) (w : World) (h0 : EvR w vp vt vm x) (HQ : Hid (Evt.right x = true)) :
    Calls Tryd.prog 15 #[evv x vp vt vm, iv S H] w (EvRes (Evt.upE S H x) w) := by
  obtain ⟨k, ps, ts, b, d, n, e0, ms, str⟩ := x
  have HX0 := Lib.hid h0
  obtain ⟨Pps, Cps, e1, _⟩ := sl_shape h0.ps
  obtain ⟨Pts, Cts, e2, _⟩ := sl_shape h0.ts
  obtain ⟨Pms, Cms, e3, _⟩ := sl_shape h0.ms
  dsimp only at e1 e2 e3
  subst e1 e2 e3
  clear h0
  have hB0 : Below w.heap.size w w := Below.refl _ _
  go_enter Tryd.func15, Tryd.ntmps15
  go_wp2_with fail
  refine (refERight_is HQ.out _ _ _ _ (HX0.out.later (((hB0.alloc hB0.size (.cells #[.int .i64 k, .slice Pps ps.length Cps, .slice Pts ts.length Cts, .int .i64 b, .int .i64 d, .int .i64 n, .int .i64 e0, .slice Pms ms.length Cms, .string str] 28)).alloc (hB0.alloc hB0.size (.cells #[.int .i64 k, .slice Pps ps.length Cps, .slice Pts ts.length Cts, .int .i64 b, .int .i64 d, .int .i64 n, .int .i64 e0, .slice Pms ms.length Cms, .string str] 28)).size (.cells #[.int .i64 S, .int .i64 H] 30)).alloc ((hB0.alloc hB0.size (.cells #[.int .i64 k, .slice Pps ps.length Cps, .slice Pts ts.length Cts, .int .i64 b, .int .i64 d, .int .i64 n, .int .i64 e0, .slice Pms ms.length Cms, .string str] 28)).alloc (hB0.alloc hB0.size (.cells #[.int .i64 k, .slice Pps ps.length Cps, .slice Pts ts.length Cts, .int .i64 b, .int .i64 d, .int .i64 n, .int .i64 e0, .slice Pms ms.length Cms, .string str] 28)).size (.cells #[.int .i64 S, .int .i64 H] 30)).size (.cells #[.int .i64 0, .slice none 0 0, .slice none 0 0, .int .i64 0, .int .i64 0, .int .i64 0, .int .i64 0, .slice none 0 0, .string ⟨#[]⟩] 28)))).mono ?_
  rintro e w1 ⟨rfl, hb1⟩
  have hs1 : Below w.heap.size w w1 := Below.trans (by repeat (first | exact Below.refl _ _ | refine Below.alloc ?_ (by simp <;> omega) _)) (hb1.mono (by simp <;> omega))
  have c_e_0 : w1.cell? ⟨w.heap.size, 0, none⟩ = some (.int .i64 k) := (hb1.cell (by simp <;> omega)).trans (by go_simp)
  have c_e_1 : w1.cell? ⟨w.heap.size, 1, none⟩ = some (.slice Pps ps.length Cps) := (hb1.cell (by simp <;> omega)).trans (by go_simp)
  have c_e_2 : w1.cell? ⟨w.heap.size, 2, none⟩ = some (.slice Pts ts.length Cts) := (hb1.cell (by simp <;> omega)).trans (by go_simp)
  have c_e_3 : w1.cell? ⟨w.heap.size, 3, none⟩ = some (.int .i64 b) := (hb1.cell (by simp <;> omega)).trans (by go_simp)
  have c_e_4 : w1.cell? ⟨w.heap.size, 4, none⟩ = some (.int .i64 d) := (hb1.cell (by simp <;> omega)).trans (by go_simp)
  have c_e_5 : w1.cell? ⟨w.heap.size, 5, none⟩ = some (.int .i64 n) := (hb1.cell (by simp <;> omega)).trans (by go_simp)
  have c_e_6 : w1.cell? ⟨w.heap.size, 6, none⟩ = some (.int .i64 e0) := (hb1.cell (by simp <;> omega)).trans (by go_simp)
  have c_e_7 : w1.cell? ⟨w.heap.size, 7, none⟩ = some (.slice Pms ms.length Cms) := (hb1.cell (by simp <;> omega)).trans (by go_simp)
  have c_e_8 : w1.cell? ⟨w.heap.size, 8, none⟩ = some (.string str) := (hb1.cell (by simp <;> omega)).trans (by go_simp)
  have c_g_0 : w1.cell? ⟨w.heap.size + 1, 0, none⟩ = some (.int .i64 S) := (hb1.cell (by simp <;> omega)).trans (by go_simp)
  have c_g_1 : w1.cell? ⟨w.heap.size + 1, 1, none⟩ = some (.int .i64 H) := (hb1.cell (by simp <;> omega)).trans (by go_simp)
  have c_r_0 : w1.cell? ⟨w.heap.size + 1 + 1, 0, none⟩ = some (.int .i64 0) := (hb1.cell (by simp <;> omega)).trans (by go_simp)
  have f_r_0 : w1.frozen? ⟨w.heap.size + 1 + 1, 0, none⟩ = false := (hb1.frozen (by simp <;> omega)).trans (by go_simp)
  have c_r_1 : w1.cell? ⟨w.heap.size + 1 + 1, 1, none⟩ = some (.slice none 0 0) := (hb1.cell (by simp <;> omega)).trans (by go_simp)
  have f_r_1 : w1.frozen? ⟨w.heap.size + 1 + 1, 1, none⟩ = false := (hb1.frozen (by simp <;> omega)).trans (by go_simp)
  have c_r_2 : w1.cell? ⟨w.heap.size + 1 + 1, 2, none⟩ = some (.slice none 0 0) := (hb1.cell (by simp <;> omega)).trans (by go_simp)
  have f_r_2 : w1.frozen? ⟨w.heap.size + 1 + 1, 2, none⟩ = false := (hb1.frozen (by simp <;> omega)).trans (by go_simp)
  have c_r_3 : w1.cell? ⟨w.heap.size + 1 + 1, 3, none⟩ = some (.int .i64 0) := (hb1.cell (by simp <;> omega)).trans (by go_simp)
  have f_r_3 : w1.frozen? ⟨w.heap.size + 1 + 1, 3, none⟩ = false := (hb1.frozen (by simp <;> omega)).trans (by go_simp)
  have c_r_4 : w1.cell? ⟨w.heap.size + 1 + 1, 4, none⟩ = some (.int .i64 0) := (hb1.cell (by simp <;> omega)).trans (by go_simp)
  have f_r_4 : w1.frozen? ⟨w.heap.size + 1 + 1, 4, none⟩ = false := (hb1.frozen (by simp <;> omega)).trans (by go_simp)
  have c_r_5 : w1.cell? ⟨w.heap.size + 1 + 1, 5, none⟩ = some (.int .i64 0) := (hb1.cell (by simp <;> omega)).trans (by go_simp)
  have f_r_5 : w1.frozen? ⟨w.heap.size + 1 + 1, 5, none⟩ = false := (hb1.frozen (by simp <;> omega)).trans (by go_simp)
  have c_r_6 : w1.cell? ⟨w.heap.size + 1 + 1, 6, none⟩ = some (.int .i64 0) := (hb1.cell (by simp <;> omega)).trans (by go_simp)
  have f_r_6 : w1.frozen? ⟨w.heap.size + 1 + 1, 6, none⟩ = false := (hb1.frozen (by simp <;> omega)).trans (by go_simp)
  have c_r_7 : w1.cell? ⟨w.heap.size + 1 + 1, 7, none⟩ = some (.slice none 0 0) := (hb1.cell (by simp <;> omega)).trans (by go_simp)
  have f_r_7 : w1.frozen? ⟨w.heap.size + 1 + 1, 7, none⟩ = false := (hb1.frozen (by simp <;> omega)).trans (by go_simp)
  have c_r_8 : w1.cell? ⟨w.heap.size + 1 + 1, 8, none⟩ = some (.string ⟨#[]⟩) := (hb1.cell (by simp <;> omega)).trans (by go_simp)
  have f_r_8 : w1.frozen? ⟨w.heap.size + 1 + 1, 8, none⟩ = false := (hb1.frozen (by simp <;> omega)).trans (by go_simp)
  have z_e : w.heap.size < _ := World.block_lt_of_cell? _ _ c_e_0
  have z_g : w.heap.size + 1 < _ := World.block_lt_of_cell? _ _ c_g_0
  have z_r : w.heap.size + 1 + 1 < _ := World.block_lt_of_cell? _ _ c_r_0
  have hB1 := below_two hB0 hs1
  clear hB0 hs1 hb1
  obtain ⟨ib, hib, hb0, hb1, hb2⟩ := info_parts infoB
  obtain ⟨ii, hii, hi0, hi1, hi2⟩ := info_parts infoI
  have hx := (Evt.right_iff _).1 HQ.out
  have Hts : Hid (ts.length ≤ 1000000) := Lib.hid (by have h1 := hx.len; have h2 := hx.max8; dsimp only at h1 h2; omega)
  have Hms : Hid (ms.length ≤ 1000000) := Lib.hid (by have h1 := hx.ms4; dsimp only at h1; omega)
  clear hx
  go_wp2_with fail
  go_cut [6] (fun p wx => OutAt k b d n e0 ts ms str w1 p wx)
  case first =>
    rcases Nat.eq_zero_or_pos ts.length with ht0 | ht0 <;> rcases Nat.eq_zero_or_pos ms.length with hm0 | hm0
    · have Hts0 := Lib.hid ht0
      have Hms0 := Lib.hid hm0
      clear ht0 hm0
      go_region_held3 (fun w' => w'.cell? ⟨w.heap.size, 0, none⟩ = some (.int .i64 k) ∧ w'.cell? ⟨w.heap.size, 1, none⟩ = some (.slice Pps ps.length Cps) ∧ w'.cell? ⟨w.heap.size, 2, none⟩ = some (.slice Pts ts.length Cts) ∧ w'.cell? ⟨w.heap.size, 3, none⟩ = some (.int .i64 b) ∧ w'.cell? ⟨w.heap.size, 4, none⟩ = some (.int .i64 d) ∧ w'.cell? ⟨w.heap.size, 5, none⟩ = some (.int .i64 n) ∧ w'.cell? ⟨w.heap.size, 6, none⟩ = some (.int .i64 e0) ∧ w'.cell? ⟨w.heap.size, 7, none⟩ = some (.slice Pms ms.length Cms) ∧ w'.cell? ⟨w.heap.size, 8, none⟩ = some (.string str) ∧ Below w1.heap.size w1 w')
        (((try go_split_ands); refine ⟨?_, ?_, ?_, ?_, ?_, ?_, ?_, ?_, ?_, ?_⟩ <;> first | with_reducible assumption | ((with_reducible refine cell_later ?_ c_e_0); (repeat (first | with_reducible exact Below.refl _ _ | with_reducible refine Below.drew ?_ | with_reducible refine alloc_below ?_ | (with_reducible refine put9_below ?_ (by simp)))); done) | ((with_reducible refine cell_later ?_ c_e_1); (repeat (first | with_reducible exact Below.refl _ _ | with_reducible refine Below.drew ?_ | with_reducible refine alloc_below ?_ | (with_reducible refine put9_below ?_ (by simp)))); done) | ((with_reducible refine cell_later ?_ c_e_2); (repeat (first | with_reducible exact Below.refl _ _ | with_reducible refine Below.drew ?_ | with_reducible refine alloc_below ?_ | (with_reducible refine put9_below ?_ (by simp)))); done) | ((with_reducible refine cell_later ?_ c_e_3); (repeat (first | with_reducible exact Below.refl _ _ | with_reducible refine Below.drew ?_ | with_reducible refine alloc_below ?_ | (with_reducible refine put9_below ?_ (by simp)))); done) | ((with_reducible refine cell_later ?_ c_e_4); (repeat (first | with_reducible exact Below.refl _ _ | with_reducible refine Below.drew ?_ | with_reducible refine alloc_below ?_ | (with_reducible refine put9_below ?_ (by simp)))); done) | ((with_reducible refine cell_later ?_ c_e_5); (repeat (first | with_reducible exact Below.refl _ _ | with_reducible refine Below.drew ?_ | with_reducible refine alloc_below ?_ | (with_reducible refine put9_below ?_ (by simp)))); done) | ((with_reducible refine cell_later ?_ c_e_6); (repeat (first | with_reducible exact Below.refl _ _ | with_reducible refine Below.drew ?_ | with_reducible refine alloc_below ?_ | (with_reducible refine put9_below ?_ (by simp)))); done) | ((with_reducible refine cell_later ?_ c_e_7); (repeat (first | with_reducible exact Below.refl _ _ | with_reducible refine Below.drew ?_ | with_reducible refine alloc_below ?_ | (with_reducible refine put9_below ?_ (by simp)))); done) | ((with_reducible refine cell_later ?_ c_e_8); (repeat (first | with_reducible exact Below.refl _ _ | with_reducible refine Below.drew ?_ | with_reducible refine alloc_below ?_ | (with_reducible refine put9_below ?_ (by simp)))); done) | ((repeat (first | with_reducible exact Below.refl _ _ | with_reducible refine Below.drew ?_ | with_reducible refine alloc_below ?_ | (with_reducible refine put9_below ?_ (by simp)))); done)))
        (first
          | (refine step_append_none _ rfl _ _ 23 rfl 4 ib Tryd.underlying23 hib _ rfl _ _ _ rfl Hts0.out ?_)
          | (refine step_append_none _ rfl _ _ 26 rfl 3 ii Tryd.underlying26 hii _ rfl _ _ _ rfl Hms0.out ?_))
      all_goals (go_wp2_with fail; go_meet; case rel => exact ⟨_, _, _, _, _, rfl, by omega, (by first | (simp; done) | (simp; omega)), by go_simp, by go_simp, by go_simp; rfl, by go_simp, by go_simp, by go_simp, by go_simp, by go_simp; rfl, by go_simp, by go_simp, by go_simp, by go_simp, by go_simp, by go_simp, by go_simp, by go_simp, by go_simp, by go_simp, sl_zero Hts0.out, sl_zero Hms0.out, (fun e => by first | (simp [Value.ownBlock] at e; done) | (simp [Value.ownBlock] at e; omega)), (fun e => by first | (simp [Value.ownBlock] at e; done) | (simp [Value.ownBlock] at e; omega)), (fun g e => by first | (simp [Value.ownBlock] at e; done) | (simp [Value.ownBlock] at e; subst e; simp; done) | (simp [Value.ownBlock] at e; subst e; simp; omega) | (simp [Value.ownBlock] at e; omega)), (fun g e => by first | (simp [Value.ownBlock] at e; done) | (simp [Value.ownBlock] at e; subst e; simp; done) | (simp [Value.ownBlock] at e; subst e; simp; omega) | (simp [Value.ownBlock] at e; omega)), (by repeat (first | with_reducible exact Below.refl _ _ | with_reducible refine Below.drew ?_ | with_reducible refine alloc_below ?_ | (with_reducible refine put9_below ?_ (by simp))))⟩)
    · have Hts0 := Lib.hid ht0
      have Hms0 := Lib.hid hm0
      obtain ⟨m0, hmm⟩ : ∃ t, ms[0]? = some t := ⟨_, List.getElem?_eq_getElem hm0⟩
      obtain ⟨bm, om, em, _⟩ := ints_at HX0.out.ms hmm
      subst em
      clear hmm
      clear ht0 hm0
      go_region_held3 (fun w' => w'.cell? ⟨w.heap.size, 0, none⟩ = some (.int .i64 k) ∧ w'.cell? ⟨w.heap.size, 1, none⟩ = some (.slice Pps ps.length Cps) ∧ w'.cell? ⟨w.heap.size, 2, none⟩ = some (.slice Pts ts.length Cts) ∧ w'.cell? ⟨w.heap.size, 3, none⟩ = some (.int .i64 b) ∧ w'.cell? ⟨w.heap.size, 4, none⟩ = some (.int .i64 d) ∧ w'.cell? ⟨w.heap.size, 5, none⟩ = some (.int .i64 n) ∧ w'.cell? ⟨w.heap.size, 6, none⟩ = some (.int .i64 e0) ∧ w'.cell? ⟨w.heap.size, 7, none⟩ = some (.slice (some ⟨bm, om, none⟩) ms.length Cms) ∧ w'.cell? ⟨w.heap.size, 8, none⟩ = some (.string str) ∧ Below w1.heap.size w1 w')
        (((try go_split_ands); refine ⟨?_, ?_, ?_, ?_, ?_, ?_, ?_, ?_, ?_, ?_⟩ <;> first | with_reducible assumption | ((with_reducible refine cell_later ?_ c_e_0); (repeat (first | with_reducible exact Below.refl _ _ | with_reducible refine Below.drew ?_ | with_reducible refine alloc_below ?_ | (with_reducible refine put9_below ?_ (by simp)))); done) | ((with_reducible refine cell_later ?_ c_e_1); (repeat (first | with_reducible exact Below.refl _ _ | with_reducible refine Below.drew ?_ | with_reducible refine alloc_below ?_ | (with_reducible refine put9_below ?_ (by simp)))); done) | ((with_reducible refine cell_later ?_ c_e_2); (repeat (first | with_reducible exact Below.refl _ _ | with_reducible refine Below.drew ?_ | with_reducible refine alloc_below ?_ | (with_reducible refine put9_below ?_ (by simp)))); done) | ((with_reducible refine cell_later ?_ c_e_3); (repeat (first | with_reducible exact Below.refl _ _ | with_reducible refine Below.drew ?_ | with_reducible refine alloc_below ?_ | (with_reducible refine put9_below ?_ (by simp)))); done) | ((with_reducible refine cell_later ?_ c_e_4); (repeat (first | with_reducible exact Below.refl _ _ | with_reducible refine Below.drew ?_ | with_reducible refine alloc_below ?_ | (with_reducible refine put9_below ?_ (by simp)))); done) | ((with_reducible refine cell_later ?_ c_e_5); (repeat (first | with_reducible exact Below.refl _ _ | with_reducible refine Below.drew ?_ | with_reducible refine alloc_below ?_ | (with_reducible refine put9_below ?_ (by simp)))); done) | ((with_reducible refine cell_later ?_ c_e_6); (repeat (first | with_reducible exact Below.refl _ _ | with_reducible refine Below.drew ?_ | with_reducible refine alloc_below ?_ | (with_reducible refine put9_below ?_ (by simp)))); done) | ((with_reducible refine cell_later ?_ c_e_7); (repeat (first | with_reducible exact Below.refl _ _ | with_reducible refine Below.drew ?_ | with_reducible refine alloc_below ?_ | (with_reducible refine put9_below ?_ (by simp)))); done) | ((with_reducible refine cell_later ?_ c_e_8); (repeat (first | with_reducible exact Below.refl _ _ | with_reducible refine Below.drew ?_ | with_reducible refine alloc_below ?_ | (with_reducible refine put9_below ?_ (by simp)))); done) | ((repeat (first | with_reducible exact Below.refl _ _ | with_reducible refine Below.drew ?_ | with_reducible refine alloc_below ?_ | (with_reducible refine put9_below ?_ (by simp)))); done)))
        (first
          | (refine step_append_none _ rfl _ _ 23 rfl 4 ib Tryd.underlying23 hib _ rfl _ _ _ rfl Hts0.out ?_)
          | (refine step_append_grow _ rfl _ _ 26 rfl 3 ii (.int .i64 0) 1 8 Tryd.underlying26 hii hi0 hi1 hi2 (by decide) _ rfl ⟨bm, om, none⟩ ms.length _ (ms.flatMap encI) rfl (flat_len lenI ms) (((HX0.out.later hB1).ms.later (by repeat (first | with_reducible exact Below.refl _ _ | with_reducible refine Below.drew ?_ | with_reducible refine alloc_below ?_ | (with_reducible refine put9_below ?_ (by simp))))).news lenI (by decide)) Hms0.out Hms.out ?_; intro c8 cs8 hc8 hs8; have HC8 := Lib.hid hc8; have HS8 := Lib.hid hs8; clear hc8 hs8))
      all_goals (go_wp2_with fail; go_meet; case rel => exact ⟨_, _, _, _, _, rfl, by omega, (by first | (simp; done) | (simp; omega)), by go_simp, by go_simp, by go_simp; rfl, by go_simp, by go_simp, by go_simp, by go_simp, by go_simp; rfl, by go_simp, by go_simp, by go_simp, by go_simp, by go_simp, by go_simp, by go_simp, by go_simp, by go_simp, by go_simp, sl_zero Hts0.out, sl_cells lenI cs8 HS8.out HC8.out (by have := Hms.out; omega) (fun j u h => by go_simp), (fun e => by first | (simp [Value.ownBlock] at e; done) | (simp [Value.ownBlock] at e; omega)), (fun e => by first | (simp [Value.ownBlock] at e; done) | (simp [Value.ownBlock] at e; omega)), (fun g e => by first | (simp [Value.ownBlock] at e; done) | (simp [Value.ownBlock] at e; subst e; simp; done) | (simp [Value.ownBlock] at e; subst e; simp; omega) | (simp [Value.ownBlock] at e; omega)), (fun g e => by first | (simp [Value.ownBlock] at e; done) | (simp [Value.ownBlock] at e; subst e; simp; done) | (simp [Value.ownBlock] at e; subst e; simp; omega) | (simp [Value.ownBlock] at e; omega)), (by repeat (first | with_reducible exact Below.refl _ _ | with_reducible refine Below.drew ?_ | with_reducible refine alloc_below ?_ | (with_reducible refine put9_below ?_ (by simp))))⟩)
    · have Hts0 := Lib.hid ht0
      have Hms0 := Lib.hid hm0
      obtain ⟨t0, htt⟩ : ∃ t, ts[0]? = some t := ⟨_, List.getElem?_eq_getElem ht0⟩
      obtain ⟨bt, ot, et, _⟩ := bools_at HX0.out.ts htt
      subst et
      clear htt
      clear ht0 hm0
      go_region_held3 (fun w' => w'.cell? ⟨w.heap.size, 0, none⟩ = some (.int .i64 k) ∧ w'.cell? ⟨w.heap.size, 1, none⟩ = some (.slice Pps ps.length Cps) ∧ w'.cell? ⟨w.heap.size, 2, none⟩ = some (.slice (some ⟨bt, ot, none⟩) ts.length Cts) ∧ w'.cell? ⟨w.heap.size, 3, none⟩ = some (.int .i64 b) ∧ w'.cell? ⟨w.heap.size, 4, none⟩ = some (.int .i64 d) ∧ w'.cell? ⟨w.heap.size, 5, none⟩ = some (.int .i64 n) ∧ w'.cell? ⟨w.heap.size, 6, none⟩ = some (.int .i64 e0) ∧ w'.cell? ⟨w.heap.size, 7, none⟩ = some (.slice Pms ms.length Cms) ∧ w'.cell? ⟨w.heap.size, 8, none⟩ = some (.string str) ∧ Below w1.heap.size w1 w')
        (((try go_split_ands); refine ⟨?_, ?_, ?_, ?_, ?_, ?_, ?_, ?_, ?_, ?_⟩ <;> first | with_reducible assumption | ((with_reducible refine cell_later ?_ c_e_0); (repeat (first | with_reducible exact Below.refl _ _ | with_reducible refine Below.drew ?_ | with_reducible refine alloc_below ?_ | (with_reducible refine put9_below ?_ (by simp)))); done) | ((with_reducible refine cell_later ?_ c_e_1); (repeat (first | with_reducible exact Below.refl _ _ | with_reducible refine Below.drew ?_ | with_reducible refine alloc_below ?_ | (with_reducible refine put9_below ?_ (by simp)))); done) | ((with_reducible refine cell_later ?_ c_e_2); (repeat (first | with_reducible exact Below.refl _ _ | with_reducible refine Below.drew ?_ | with_reducible refine alloc_below ?_ | (with_reducible refine put9_below ?_ (by simp)))); done) | ((with_reducible refine cell_later ?_ c_e_3); (repeat (first | with_reducible exact Below.refl _ _ | with_reducible refine Below.drew ?_ | with_reducible refine alloc_below ?_ | (with_reducible refine put9_below ?_ (by simp)))); done) | ((with_reducible refine cell_later ?_ c_e_4); (repeat (first | with_reducible exact Below.refl _ _ | with_reducible refine Below.drew ?_ | with_reducible refine alloc_below ?_ | (with_reducible refine put9_below ?_ (by simp)))); done) | ((with_reducible refine cell_later ?_ c_e_5); (repeat (first | with_reducible exact Below.refl _ _ | with_reducible refine Below.drew ?_ | with_reducible refine alloc_below ?_ | (with_reducible refine put9_below ?_ (by simp)))); done) | ((with_reducible refine cell_later ?_ c_e_6); (repeat (first | with_reducible exact Below.refl _ _ | with_reducible refine Below.drew ?_ | with_reducible refine alloc_below ?_ | (with_reducible refine put9_below ?_ (by simp)))); done) | ((with_reducible refine cell_later ?_ c_e_7); (repeat (first | with_reducible exact Below.refl _ _ | with_reducible refine Below.drew ?_ | with_reducible refine alloc_below ?_ | (with_reducible refine put9_below ?_ (by simp)))); done) | ((with_reducible refine cell_later ?_ c_e_8); (repeat (first | with_reducible exact Below.refl _ _ | with_reducible refine Below.drew ?_ | with_reducible refine alloc_below ?_ | (with_reducible refine put9_below ?_ (by simp)))); done) | ((repeat (first | with_reducible exact Below.refl _ _ | with_reducible refine Below.drew ?_ | with_reducible refine alloc_below ?_ | (with_reducible refine put9_below ?_ (by simp)))); done)))
        (first
          | (refine step_append_grow _ rfl _ _ 23 rfl 4 ib (.bool false) 1 1 Tryd.underlying23 hib hb0 hb1 hb2 (by decide) _ rfl ⟨bt, ot, none⟩ ts.length _ (ts.flatMap encB) rfl (flat_len lenB ts) (((HX0.out.later hB1).ts.later (by repeat (first | with_reducible exact Below.refl _ _ | with_reducible refine Below.drew ?_ | with_reducible refine alloc_below ?_ | (with_reducible refine put9_below ?_ (by simp))))).news lenB (by decide)) Hts0.out Hts.out ?_; intro c7 cs7 hc7 hs7; have HC7 := Lib.hid hc7; have HS7 := Lib.hid hs7; clear hc7 hs7)
          | (refine step_append_none _ rfl _ _ 26 rfl 3 ii Tryd.underlying26 hii _ rfl _ _ _ rfl Hms0.out ?_))
      all_goals (go_wp2_with fail; go_meet; case rel => exact ⟨_, _, _, _, _, rfl, by omega, (by first | (simp; done) | (simp; omega)), by go_simp, by go_simp, by go_simp; rfl, by go_simp, by go_simp, by go_simp, by go_simp, by go_simp; rfl, by go_simp, by go_simp, by go_simp, by go_simp, by go_simp, by go_simp, by go_simp, by go_simp, by go_simp, by go_simp, sl_cells lenB cs7 HS7.out HC7.out (by have := Hts.out; omega) (fun j u h => by go_simp), sl_zero Hms0.out, (fun e => by first | (simp [Value.ownBlock] at e; done) | (simp [Value.ownBlock] at e; omega)), (fun e => by first | (simp [Value.ownBlock] at e; done) | (simp [Value.ownBlock] at e; omega)), (fun g e => by first | (simp [Value.ownBlock] at e; done) | (simp [Value.ownBlock] at e; subst e; simp; done) | (simp [Value.ownBlock] at e; subst e; simp; omega) | (simp [Value.ownBlock] at e; omega)), (fun g e => by first | (simp [Value.ownBlock] at e; done) | (simp [Value.ownBlock] at e; subst e; simp; done) | (simp [Value.ownBlock] at e; subst e; simp; omega) | (simp [Value.ownBlock] at e; omega)), (by repeat (first | with_reducible exact Below.refl _ _ | with_reducible refine Below.drew ?_ | with_reducible refine alloc_below ?_ | (with_reducible refine put9_below ?_ (by simp))))⟩)
    · have Hts0 := Lib.hid ht0
      have Hms0 := Lib.hid hm0
      obtain ⟨t0, htt⟩ : ∃ t, ts[0]? = some t := ⟨_, List.getElem?_eq_getElem ht0⟩
      obtain ⟨bt, ot, et, _⟩ := bools_at HX0.out.ts htt
      subst et
      clear htt
      obtain ⟨m0, hmm⟩ : ∃ t, ms[0]? = some t := ⟨_, List.getElem?_eq_getElem hm0⟩
      obtain ⟨bm, om, em, _⟩ := ints_at HX0.out.ms hmm
      subst em
      clear hmm
      clear ht0 hm0
      go_region_held3 (fun w' => w'.cell? ⟨w.heap.size, 0, none⟩ = some (.int .i64 k) ∧ w'.cell? ⟨w.heap.size, 1, none⟩ = some (.slice Pps ps.length Cps) ∧ w'.cell? ⟨w.heap.size, 2, none⟩ = some (.slice (some ⟨bt, ot, none⟩) ts.length Cts) ∧ w'.cell? ⟨w.heap.size, 3, none⟩ = some (.int .i64 b) ∧ w'.cell? ⟨w.heap.size, 4, none⟩ = some (.int .i64 d) ∧ w'.cell? ⟨w.heap.size, 5, none⟩ = some (.int .i64 n) ∧ w'.cell? ⟨w.heap.size, 6, none⟩ = some (.int .i64 e0) ∧ w'.cell? ⟨w.heap.size, 7, none⟩ = some (.slice (some ⟨bm, om, none⟩) ms.length Cms) ∧ w'.cell? ⟨w.heap.size, 8, none⟩ = some (.string str) ∧ Below w1.heap.size w1 w')
        (((try go_split_ands); refine ⟨?_, ?_, ?_, ?_, ?_, ?_, ?_, ?_, ?_, ?_⟩ <;> first | with_reducible assumption | ((with_reducible refine cell_later ?_ c_e_0); (repeat (first | with_reducible exact Below.refl _ _ | with_reducible refine Below.drew ?_ | with_reducible refine alloc_below ?_ | (with_reducible refine put9_below ?_ (by simp)))); done) | ((with_reducible refine cell_later ?_ c_e_1); (repeat (first | with_reducible exact Below.refl _ _ | with_reducible refine Below.drew ?_ | with_reducible refine alloc_below ?_ | (with_reducible refine put9_below ?_ (by simp)))); done) | ((with_reducible refine cell_later ?_ c_e_2); (repeat (first | with_reducible exact Below.refl _ _ | with_reducible refine Below.drew ?_ | with_reducible refine alloc_below ?_ | (with_reducible refine put9_below ?_ (by simp)))); done) | ((with_reducible refine cell_later ?_ c_e_3); (repeat (first | with_reducible exact Below.refl _ _ | with_reducible refine Below.drew ?_ | with_reducible refine alloc_below ?_ | (with_reducible refine put9_below ?_ (by simp)))); done) | ((with_reducible refine cell_later ?_ c_e_4); (repeat (first | with_reducible exact Below.refl _ _ | with_reducible refine Below.drew ?_ | with_reducible refine alloc_below ?_ | (with_reducible refine put9_below ?_ (by simp)))); done) | ((with_reducible refine cell_later ?_ c_e_5); (repeat (first | with_reducible exact Below.refl _ _ | with_reducible refine Below.drew ?_ | with_reducible refine alloc_below ?_ | (with_reducible refine put9_below ?_ (by simp)))); done) | ((with_reducible refine cell_later ?_ c_e_6); (repeat (first | with_reducible exact Below.refl _ _ | with_reducible refine Below.drew ?_ | with_reducible refine alloc_below ?_ | (with_reducible refine put9_below ?_ (by simp)))); done) | ((with_reducible refine cell_later ?_ c_e_7); (repeat (first | with_reducible exact Below.refl _ _ | with_reducible refine Below.drew ?_ | with_reducible refine alloc_below ?_ | (with_reducible refine put9_below ?_ (by simp)))); done) | ((with_reducible refine cell_later ?_ c_e_8); (repeat (first | with_reducible exact Below.refl _ _ | with_reducible refine Below.drew ?_ | with_reducible refine alloc_below ?_ | (with_reducible refine put9_below ?_ (by simp)))); done) | ((repeat (first | with_reducible exact Below.refl _ _ | with_reducible refine Below.drew ?_ | with_reducible refine alloc_below ?_ | (with_reducible refine put9_below ?_ (by simp)))); done)))
        (first
          | (refine step_append_grow _ rfl _ _ 23 rfl 4 ib (.bool false) 1 1 Tryd.underlying23 hib hb0 hb1 hb2 (by decide) _ rfl ⟨bt, ot, none⟩ ts.length _ (ts.flatMap encB) rfl (flat_len lenB ts) (((HX0.out.later hB1).ts.later (by repeat (first | with_reducible exact Below.refl _ _ | with_reducible refine Below.drew ?_ | with_reducible refine alloc_below ?_ | (with_reducible refine put9_below ?_ (by simp))))).news lenB (by decide)) Hts0.out Hts.out ?_; intro c7 cs7 hc7 hs7; have HC7 := Lib.hid hc7; have HS7 := Lib.hid hs7; clear hc7 hs7)
          | (refine step_append_grow _ rfl _ _ 26 rfl 3 ii (.int .i64 0) 1 8 Tryd.underlying26 hii hi0 hi1 hi2 (by decide) _ rfl ⟨bm, om, none⟩ ms.length _ (ms.flatMap encI) rfl (flat_len lenI ms) (((HX0.out.later hB1).ms.later (by repeat (first | with_reducible exact Below.refl _ _ | with_reducible refine Below.drew ?_ | with_reducible refine alloc_below ?_ | (with_reducible refine put9_below ?_ (by simp))))).news lenI (by decide)) Hms0.out Hms.out ?_; intro c8 cs8 hc8 hs8; have HC8 := Lib.hid hc8; have HS8 := Lib.hid hs8; clear hc8 hs8))
      all_goals (go_wp2_with fail; go_meet; case rel => exact ⟨_, _, _, _, _, rfl, by omega, (by first | (simp; done) | (simp; omega)), by go_simp, by go_simp, by go_simp; rfl, by go_simp, by go_simp, by go_simp, by go_simp, by go_simp; rfl, by go_simp, by go_simp, by go_simp, by go_simp, by go_simp, by go_simp, by go_simp, by go_simp, by go_simp, by go_simp, sl_cells lenB cs7 HS7.out HC7.out (by have := Hts.out; omega) (fun j u h => by go_simp), sl_cells lenI cs8 HS8.out HC8.out (by have := Hms.out; omega) (fun j u h => by go_simp), (fun e => by first | (simp [Value.ownBlock] at e; done) | (simp [Value.ownBlock] at e; omega)), (fun e => by first | (simp [Value.ownBlock] at e; done) | (simp [Value.ownBlock] at e; omega)), (fun g e => by first | (simp [Value.ownBlock] at e; done) | (simp [Value.ownBlock] at e; subst e; simp; done) | (simp [Value.ownBlock] at e; subst e; simp; omega) | (simp [Value.ownBlock] at e; omega)), (fun g e => by first | (simp [Value.ownBlock] at e; done) | (simp [Value.ownBlock] at e; subst e; simp; done) | (simp [Value.ownBlock] at e; subst e; simp; omega) | (simp [Value.ownBlock] at e; omega)), (by repeat (first | with_reducible exact Below.refl _ _ | with_reducible refine Below.drew ?_ | with_reducible refine alloc_below ?_ | (with_reducible refine put9_below ?_ (by simp))))⟩)
  case rest =>
  obtain ⟨A, pt, ct, pm, cm, rfl, hA0, hA1, o_0, o_1, o_2, o_3, o_4, o_5, o_6, o_7, o_8, f_0, f_1, f_2, f_3, f_4, f_5, f_6, f_7, f_8, hbT, hbM, hnT, hnM, hoT, hoM, hBx⟩ := hcut
  obtain ⟨wa, hwa⟩ : ∃ x, x = wc := ⟨_, rfl⟩
  subst hwa
  have HBT := Lib.hid hbT
  have HBM := Lib.hid hbM
  have HNT := Lib.hid hnT
  have HNM := Lib.hid hnM
  have HOT := Lib.hid hoT
  have HOM := Lib.hid hoM
  clear hbT hbM hnT hnM hoT hoM
  replace f_r_0 := frozen_later hBx c_r_0 f_r_0
  replace f_r_1 := frozen_later hBx c_r_1 f_r_1
  replace f_r_2 := frozen_later hBx c_r_2 f_r_2
  replace f_r_3 := frozen_later hBx c_r_3 f_r_3
  replace f_r_4 := frozen_later hBx c_r_4 f_r_4
  replace f_r_5 := frozen_later hBx c_r_5 f_r_5
  replace f_r_6 := frozen_later hBx c_r_6 f_r_6
  replace f_r_7 := frozen_later hBx c_r_7 f_r_7
  replace f_r_8 := frozen_later hBx c_r_8 f_r_8
  replace c_e_0 := cell_later hBx c_e_0
  replace c_e_1 := cell_later hBx c_e_1
  replace c_e_2 := cell_later hBx c_e_2
  replace c_e_3 := cell_later hBx c_e_3
  replace c_e_4 := cell_later hBx c_e_4
  replace c_e_5 := cell_later hBx c_e_5
  replace c_e_6 := cell_later hBx c_e_6
  replace c_e_7 := cell_later hBx c_e_7
  replace c_e_8 := cell_later hBx c_e_8
  replace c_g_0 := cell_later hBx c_g_0
  replace c_g_1 := cell_later hBx c_g_1
  replace c_r_0 := cell_later hBx c_r_0
  replace c_r_1 := cell_later hBx c_r_1
  replace c_r_2 := cell_later hBx c_r_2
  replace c_r_3 := cell_later hBx c_r_3
  replace c_r_4 := cell_later hBx c_r_4
  replace c_r_5 := cell_later hBx c_r_5
  replace c_r_6 := cell_later hBx c_r_6
  replace c_r_7 := cell_later hBx c_r_7
  replace c_r_8 := cell_later hBx c_r_8
  have hBw : Below w.heap.size w wa := below_two hB1 hBx
  obtain ⟨i0, hi, hz0, hz1, hz2⟩ := info_parts infoP
  have n8 : ps.length ≤ 8 := ((Evt.right_iff _).1 HQ.out).max8
  go_wp2
  go_loopw [7] (fun i wr => UpAt S H ps A w1 wa i wr) (fun i _ => ps.length - (intOf i).toNat)
  case atStart => exact ⟨0, [], _, Nat.zero_le _, rfl, rfl, rfl, World.ownsRow_nil _ _ _ _, o_1, f_1, Fr.refl _ _, Nat.le_refl _, hBx⟩
  case round =>
    obtain ⟨j, m, vP, hj, rfl, hm, hml, hown, hv1, hf1, hfr, hsz, hBn⟩ := hrel
    obtain ⟨pP, cP, rfl⟩ := own_shape hown
    have HM := Lib.hid hm
    have HML := Lib.hid hml
    have HO := Lib.hid hown
    have HFR := Lib.hid hfr
    clear hm hml hown hfr
    replace f_r_0 := (HFR.out _ _ _ (Or.inl (by omega)) c_r_0).2 f_r_0
    replace f_r_1 := (HFR.out _ _ _ (Or.inl (by omega)) c_r_1).2 f_r_1
    replace f_r_2 := (HFR.out _ _ _ (Or.inl (by omega)) c_r_2).2 f_r_2
    replace f_r_3 := (HFR.out _ _ _ (Or.inl (by omega)) c_r_3).2 f_r_3
    replace f_r_4 := (HFR.out _ _ _ (Or.inl (by omega)) c_r_4).2 f_r_4
    replace f_r_5 := (HFR.out _ _ _ (Or.inl (by omega)) c_r_5).2 f_r_5
    replace f_r_6 := (HFR.out _ _ _ (Or.inl (by omega)) c_r_6).2 f_r_6
    replace f_r_7 := (HFR.out _ _ _ (Or.inl (by omega)) c_r_7).2 f_r_7
    replace f_r_8 := (HFR.out _ _ _ (Or.inl (by omega)) c_r_8).2 f_r_8
    replace c_e_0 := (HFR.out _ _ _ (Or.inl (by omega)) c_e_0).1
    replace c_e_1 := (HFR.out _ _ _ (Or.inl (by omega)) c_e_1).1
    replace c_e_2 := (HFR.out _ _ _ (Or.inl (by omega)) c_e_2).1
    replace c_e_3 := (HFR.out _ _ _ (Or.inl (by omega)) c_e_3).1
    replace c_e_4 := (HFR.out _ _ _ (Or.inl (by omega)) c_e_4).1
    replace c_e_5 := (HFR.out _ _ _ (Or.inl (by omega)) c_e_5).1
    replace c_e_6 := (HFR.out _ _ _ (Or.inl (by omega)) c_e_6).1
    replace c_e_7 := (HFR.out _ _ _ (Or.inl (by omega)) c_e_7).1
    replace c_e_8 := (HFR.out _ _ _ (Or.inl (by omega)) c_e_8).1
    replace c_g_0 := (HFR.out _ _ _ (Or.inl (by omega)) c_g_0).1
    replace c_g_1 := (HFR.out _ _ _ (Or.inl (by omega)) c_g_1).1
    replace c_r_0 := (HFR.out _ _ _ (Or.inl (by omega)) c_r_0).1
    replace c_r_1 := (HFR.out _ _ _ (Or.inl (by omega)) c_r_1).1
    replace c_r_2 := (HFR.out _ _ _ (Or.inl (by omega)) c_r_2).1
    replace c_r_3 := (HFR.out _ _ _ (Or.inl (by omega)) c_r_3).1
    replace c_r_4 := (HFR.out _ _ _ (Or.inl (by omega)) c_r_4).1
    replace c_r_5 := (HFR.out _ _ _ (Or.inl (by omega)) c_r_5).1
    replace c_r_6 := (HFR.out _ _ _ (Or.inl (by omega)) c_r_6).1
    replace c_r_7 := (HFR.out _ _ _ (Or.inl (by omega)) c_r_7).1
    replace c_r_8 := (HFR.out _ _ _ (Or.inl (by omega)) c_r_8).1
    have hBr : Below w.heap.size w wr := below_two hB1 hBn
    by_cases hlt : j < ps.length
    · obtain ⟨p, hp⟩ : ∃ p, ps[j]? = some p := ⟨_, List.getElem?_eq_getElem hlt⟩
      obtain ⟨bq, oq, eq, hx0, hx1, hx2⟩ := pits_at (HX0.out.later hBr).ps hp
      subst eq
      try dsimp only at hx0 hx1 hx2
      have HP := Lib.hid hp
      clear hp
      obtain ⟨p0, p1, p2⟩ := p
      have hlt' : (j : Int) < (ps.length : Int) := by omega
      obtain ⟨q0, q1, q2, xe, hv, hcase⟩ := upP_cases S H (p0, p1, p2)
      have HV := Lib.hid hv
      have HC := Lib.hid hcase
      clear hv hcase
      try dsimp only at hx0 hx1 hx2
      have zx : bq < wr.heap.size := World.block_lt_of_cell? _ _ hx0
      have zA : A < wr.heap.size := Nat.lt_of_lt_of_le hA1 hsz
      go_wp2_with fail
      go_cut [8, 9] (fun p x wx => x = .int .i64 xe ∧ AtQ q0 q1 q2 wr p wx)
      case first =>
        have RA : Hid (∀ u, Below (wr.alloc (.cells #[.int .i64 0, .int .i64 0, .int .i64 0] 57)).drew.heap.size (wr.alloc (.cells #[.int .i64 0, .int .i64 0, .int .i64 0] 57)).drew u → u.cell? ⟨wr.heap.size, 0, none⟩ = some (.int .i64 0) ∧ u.cell? ⟨wr.heap.size, 1, none⟩ = some (.int .i64 0) ∧ u.cell? ⟨wr.heap.size, 2, none⟩ = some (.int .i64 0) ∧ u.frozen? ⟨wr.heap.size, 0, none⟩ = false ∧ u.frozen? ⟨wr.heap.size, 1, none⟩ = false ∧ u.frozen? ⟨wr.heap.size, 2, none⟩ = false ∧ Below wr.heap.size wr u) := Lib.hid (fun u hq => by
          have e0 : (wr.alloc (.cells #[.int .i64 0, .int .i64 0, .int .i64 0] 57)).drew.cell? ⟨wr.heap.size, 0, none⟩ = some (.int .i64 0) := cell_drew (by go_simp)
          have e1 : (wr.alloc (.cells #[.int .i64 0, .int .i64 0, .int .i64 0] 57)).drew.cell? ⟨wr.heap.size, 1, none⟩ = some (.int .i64 0) := cell_drew (by go_simp)
          have e2 : (wr.alloc (.cells #[.int .i64 0, .int .i64 0, .int .i64 0] 57)).drew.cell? ⟨wr.heap.size, 2, none⟩ = some (.int .i64 0) := cell_drew (by go_simp)
          exact ⟨cell_later hq e0, cell_later hq e1, cell_later hq e2, frozen_later hq e0 (frozen_drew (by go_simp)), frozen_later hq e1 (frozen_drew (by go_simp)), frozen_later hq e2 (frozen_drew (by go_simp)), below_two (alloc_below (Below.refl _ _)).drew hq⟩)
        have RB : Hid (∀ u, Below wr.drew.heap.size wr.drew u → u.cell? ⟨bq, oq + j * 3, none⟩ = some (.int .i64 p0) ∧ u.cell? ⟨bq, oq + j * 3 + 1, none⟩ = some (.int .i64 p1) ∧ u.cell? ⟨bq, oq + j * 3 + 2, none⟩ = some (.int .i64 p2) ∧ u.cell? ⟨w.heap.size, 1, none⟩ = some (.slice (some ⟨bq, oq, none⟩) ps.length Cps) ∧ u.cell? ⟨w.heap.size + 1, 0, none⟩ = some (.int .i64 S) ∧ u.cell? ⟨w.heap.size + 1, 1, none⟩ = some (.int .i64 H) ∧ Below wr.heap.size wr u) := Lib.hid (fun u hq => ⟨cell_later hq (cell_drew hx0), cell_later hq (cell_drew hx1), cell_later hq (cell_drew hx2), cell_later hq (cell_drew c_e_1), cell_later hq (cell_drew c_g_0), cell_later hq (cell_drew c_g_1), below_two (Below.refl _ _).drew hq⟩)
        clear HQ HX0 HM HML HO HFR HC
        go_region_held3 (fun w' => w'.cell? ⟨bq, oq + j * 3, none⟩ = some (.int .i64 p0) ∧ w'.cell? ⟨bq, oq + j * 3 + 1, none⟩ = some (.int .i64 p1) ∧ w'.cell? ⟨bq, oq + j * 3 + 2, none⟩ = some (.int .i64 p2) ∧ w'.cell? ⟨w.heap.size, 1, none⟩ = some (.slice (some ⟨bq, oq, none⟩) ps.length Cps) ∧ w'.cell? ⟨w.heap.size + 1, 0, none⟩ = some (.int .i64 S) ∧ w'.cell? ⟨w.heap.size + 1, 1, none⟩ = some (.int .i64 H) ∧ Below wr.heap.size wr w')
          (((try go_split_ands); refine ⟨?_, ?_, ?_, ?_, ?_, ?_, ?_⟩ <;> first | with_reducible assumption | (with_reducible refine cell_later hq ?_; with_reducible assumption) | (with_reducible refine below_two ?_ hq; with_reducible assumption) | (with_reducible refine alloc_cell ?_; with_reducible assumption) | (with_reducible refine alloc_below ?_; with_reducible assumption) | (with_reducible refine set_far ?_ (set_far ?_ (set_far ?_ ?_)); omega; omega; omega; with_reducible assumption) | (with_reducible refine put3_below ?_ ?_; with_reducible assumption; omega) | with_reducible exact cell_drew hx0 | with_reducible exact cell_drew hx1 | with_reducible exact cell_drew hx2 | with_reducible exact cell_drew c_e_1 | with_reducible exact cell_drew c_g_0 | with_reducible exact cell_drew c_g_1 | with_reducible exact Below.drew (Below.refl _ _) | with_reducible exact cell_drew (alloc_cell hx0) | with_reducible exact cell_drew (alloc_cell hx1) | with_reducible exact cell_drew (alloc_cell hx2) | with_reducible exact cell_drew (alloc_cell c_e_1) | with_reducible exact cell_drew (alloc_cell c_g_0) | with_reducible exact cell_drew (alloc_cell c_g_1) | with_reducible exact (alloc_below (Below.refl _ _)).drew))
          (first
            | (go_at_call 44; first
                | (with_reducible refine (refUpV_is (p := (p0, p1, p2)) HV.out wr.drew).mono ?_; rintro ed u5 ⟨rfl, hq⟩; obtain ⟨n_0, n_1, n_2, n_3, n_4, n_5, hb5⟩ := RB.out _ hq)
                | (with_reducible refine (refUpV_is (p := (p0, p1, p2)) HV.out (wr.alloc (.cells #[.int .i64 0, .int .i64 0, .int .i64 0] 57)).drew).mono ?_; rintro ed u5 ⟨rfl, hq⟩; obtain ⟨r_0, r_1, r_2, f_0, f_1, f_2, hb5⟩ := RA.out _ hq)))
        all_goals (first
          | (go_wp2_with fail; go_meet; case rel => exact ⟨rfl, _, rfl, (put3_of r_0 r_1 r_2).1, (put3_of r_0 r_1 r_2).2.1, (put3_of r_0 r_1 r_2).2.2, put3_below hb5 (by omega)⟩)
          | (go_wp2_with fail; go_meet; case rel => exact ⟨rfl, _, rfl, by go_simp, by go_simp, by go_simp, alloc_below hb5⟩))
      case rest =>
      obtain ⟨rfl, A1, rfl, c_p_0, c_p_1, c_p_2, hBy⟩ := hcut
      obtain ⟨wb, hwb⟩ : ∃ x, x = wc := ⟨_, rfl⟩
      subst hwb
      clear hx0 hx1 hx2 zx
      have e_r_0 := frozen_later hBy c_r_0 f_r_0
      have e_r_1 := frozen_later hBy c_r_1 f_r_1
      have e_r_2 := frozen_later hBy c_r_2 f_r_2
      have e_r_3 := frozen_later hBy c_r_3 f_r_3
      have e_r_4 := frozen_later hBy c_r_4 f_r_4
      have e_r_5 := frozen_later hBy c_r_5 f_r_5
      have e_r_6 := frozen_later hBy c_r_6 f_r_6
      have e_r_7 := frozen_later hBy c_r_7 f_r_7
      have e_r_8 := frozen_later hBy c_r_8 f_r_8
      have d_r_0 := cell_later hBy c_r_0
      have d_r_1 := cell_later hBy c_r_1
      have d_r_2 := cell_later hBy c_r_2
      have d_r_3 := cell_later hBy c_r_3
      have d_r_4 := cell_later hBy c_r_4
      have d_r_5 := cell_later hBy c_r_5
      have d_r_6 := cell_later hBy c_r_6
      have d_r_7 := cell_later hBy c_r_7
      have d_r_8 := cell_later hBy c_r_8
      clear c_r_0 f_r_0 c_e_0 c_r_1 f_r_1 c_e_1 c_r_2 f_r_2 c_e_2 c_r_3 f_r_3 c_e_3 c_r_4 f_r_4 c_e_4 c_r_5 f_r_5 c_e_5 c_r_6 f_r_6 c_e_6 c_r_7 f_r_7 c_e_7 c_r_8 f_r_8 c_e_8 c_g_0 c_g_1
      have hv1' := cell_later hBy hv1
      have hf1' := frozen_later hBy hv1 hf1
      have zA1 : A1 < wb.heap.size := World.block_lt_of_cell? _ _ c_p_0
      have hBz : Below w.heap.size w wb := below_two hBr hBy
      have hBn' : Below w1.heap.size w1 wb := below_two hBn hBy
      have hszy := hBy.size
      rcases HC.out with ⟨rfl, hu⟩ | ⟨rfl, hu⟩
      · have HU := Lib.hid hu
        have HOW := Lib.hid (own_later HO.out hBy)
        have HBY := Lib.hid hBy
        clear hu hv1 hf1 hBy
        go_wp2_with (first
          | (at_builtin; refine wpList_append_own _ rfl _ _ 22 rfl wa.heap.size 57 i0 (.agg #[.int .i64 0, .int .i64 0, .int .i64 0]) 3 24 Tryd.underlying22 hi hz0 hz1 hz2 rfl (by decide) _ _ _ rfl (HOW.out.alloc _) ⟨wb.heap.size, 0, none⟩ 1 1 [.int .i64 q0, .int .i64 q1, .int .i64 q2] rfl rfl (cells3_new _ _ _ _ _ rfl) (by intro u hu; simp at hu; rcases hu with rfl | rfl | rfl <;> rfl) (by unfold maxLen; omega) (by omega) (by simp; omega) ?_; intro v' w2 hown2 hgrow _; obtain ⟨pQ, cQ, rfl⟩ := own_shape hown2; have hb2 : Below wa.heap.size (wb.alloc (.cells #[.int .i64 q0, .int .i64 q1, .int .i64 q2] 57)) w2 := (Below.refl _ _).grown hgrow (by simp; omega) (fun j hj => (HOW.out.lt j hj).1); have ha1 := (hb2.cell (p := ⟨A, 1, none⟩) hA1).trans (alloc_cell hv1'); have hg1 := (hb2.frozen (p := ⟨A, 1, none⟩) hA1).trans (alloc_frozen hv1' hf1'); have HB2 := Lib.hid hb2; have HN2 := Lib.hid hown2; clear hb2 hown2 hgrow)
          | fail)
        go_wp2
        go_roundw
        case rel => exact ⟨j + 1, m ++ [(q0, q1, q2)], _, by omega, by go_num, Evt.lift_take HP.out HM.out HU.out, by rw [List.length_append, HML.out]; rfl, own_set (by rw [List.flatMap_append]; simpa [encP] using HN2.out) hA1, set_same (held_of ha1), set_frozen hg1, (HFR.out.set (below_step3 HBY.out hsz HB2.out)), by have := HB2.out.size; simp at this ⊢; omega, set1_below ((alloc_below hBn').trans (HB2.out.mono (by omega))) hA0⟩
        case measure => simp [intOf]; omega
      · have hU : Evt.upE S H ⟨k, ps, ts, b, d, n, e0, ms, str⟩ = (Evt.zero, 20) := by
          rw [Evt.upE_right ((Evt.right_iff _).1 HQ.out)]
          dsimp only
          rw [Evt.lift_take_none HP.out hu]
        have HU := Lib.hid hU
        clear hu hU
        obtain ⟨m0, m1, m2, m3, m4, m5, m6, m7, m8⟩ := put9_of (x0 := .int .i64 0) (x1 := .slice none 0 0) (x2 := .slice none 0 0) (x3 := .int .i64 0) (x4 := .int .i64 0) (x5 := .int .i64 0) (x6 := .int .i64 0) (x7 := .slice none 0 0) (x8 := .string ⟨#[]⟩) d_r_0 d_r_1 d_r_2 d_r_3 d_r_4 d_r_5 d_r_6 d_r_7 d_r_8
        go_wp2
        rw [HU.out]
        exact bodyPost_ret (v := .tuple #[.agg #[.int .i64 0, .slice none 0 0, .slice none 0 0, .int .i64 0, .int .i64 0, .int .i64 0, .int .i64 0, .slice none 0 0, .string ⟨#[]⟩], .int .i64 20]) (by simp [results, Tryd.results15, go_sem, m0, m1, m2, m3, m4, m5, m6, m7, m8]) rfl (evRes_zero rfl (put9_below hBz (by omega)))
    · obtain rfl : j = ps.length := by omega
      have hm : Evt.lift S H ps = some m := by have := HM.out; rwa [List.take_length] at this
      have hU : Evt.upE S H ⟨k, ps, ts, b, d, n, e0, ms, str⟩ = (⟨k, m, ts, b, d, n, e0, ms, str⟩, 0) := by
        rw [Evt.upE_right ((Evt.right_iff _).1 HQ.out)]
        dsimp only
        rw [hm]
      have HR : Hid (Evt.right ⟨k, m, ts, b, d, n, e0, ms, str⟩ = true) := Lib.hid ((Evt.right_iff _).2 (Evt.lift_isR ((Evt.right_iff _).1 HQ.out) hm))
      have HU := Lib.hid hU
      have hml := HML.out
      have HPS : Hid (Pits wr (.slice pP ps.length cP) m) := Lib.hid (row_sl lenP hml.symm (by omega) HO.out)
      have HPO := Lib.hid (own_row HO.out)
      have HTS : Hid (Bools wr (.slice pt ts.length ct) ts) := Lib.hid (HFR.out.sl HBT.out HNT.out)
      have HMS : Hid (Ints wr (.slice pm ms.length cm) ms) := Lib.hid (HFR.out.sl HBM.out HNM.out)
      clear hU hm hml HBT HBM
      replace o_0 := (HFR.out _ _ _ (Or.inr (by decide)) o_0).1
      replace o_2 := (HFR.out _ _ _ (Or.inr (by decide)) o_2).1
      replace o_3 := (HFR.out _ _ _ (Or.inr (by decide)) o_3).1
      replace o_4 := (HFR.out _ _ _ (Or.inr (by decide)) o_4).1
      replace o_5 := (HFR.out _ _ _ (Or.inr (by decide)) o_5).1
      replace o_6 := (HFR.out _ _ _ (Or.inr (by decide)) o_6).1
      replace o_7 := (HFR.out _ _ _ (Or.inr (by decide)) o_7).1
      replace o_8 := (HFR.out _ _ _ (Or.inr (by decide)) o_8).1
      clear o_1
      have zA : A < wr.heap.size := Nat.lt_of_lt_of_le hA1 hsz
      go_wp2_with fail
      refine (refERight_is HR.out _ _ _ _ ⟨HPS.out, HTS.out, HMS.out, HX0.out.sz⟩).mono ?_
      rintro e w9 ⟨rfl, hb9⟩
      replace HPS := Lib.hid (HPS.out.later hb9)
      replace HTS := Lib.hid (HTS.out.later hb9)
      replace HMS := Lib.hid (HMS.out.later hb9)
      have e_r_0 := frozen_later hb9 c_r_0 f_r_0
      have e_r_1 := frozen_later hb9 c_r_1 f_r_1
      have e_r_2 := frozen_later hb9 c_r_2 f_r_2
      have e_r_3 := frozen_later hb9 c_r_3 f_r_3
      have e_r_4 := frozen_later hb9 c_r_4 f_r_4
      have e_r_5 := frozen_later hb9 c_r_5 f_r_5
      have e_r_6 := frozen_later hb9 c_r_6 f_r_6
      have e_r_7 := frozen_later hb9 c_r_7 f_r_7
      have e_r_8 := frozen_later hb9 c_r_8 f_r_8
      have d_r_0 := cell_later hb9 c_r_0
      have d_r_1 := cell_later hb9 c_r_1
      have d_r_2 := cell_later hb9 c_r_2
      have d_r_3 := cell_later hb9 c_r_3
      have d_r_4 := cell_later hb9 c_r_4
      have d_r_5 := cell_later hb9 c_r_5
      have d_r_6 := cell_later hb9 c_r_6
      have d_r_7 := cell_later hb9 c_r_7
      have d_r_8 := cell_later hb9 c_r_8
      replace o_0 := cell_later hb9 o_0
      replace o_2 := cell_later hb9 o_2
      replace o_3 := cell_later hb9 o_3
      replace o_4 := cell_later hb9 o_4
      replace o_5 := cell_later hb9 o_5
      replace o_6 := cell_later hb9 o_6
      replace o_7 := cell_later hb9 o_7
      replace o_8 := cell_later hb9 o_8
      replace hv1 := cell_later hb9 hv1
      clear c_r_0 f_r_0 c_e_0 c_r_1 f_r_1 c_e_1 c_r_2 f_r_2 c_e_2 c_r_3 f_r_3 c_e_3 c_r_4 f_r_4 c_e_4 c_r_5 f_r_5 c_e_5 c_r_6 f_r_6 c_e_6 c_r_7 f_r_7 c_e_7 c_r_8 f_r_8 c_e_8 c_g_0 c_g_1
      have hB9 : Below w.heap.size w w9 := below_two hBr hb9
      have hs9 := hb9.size
      clear hb9
      obtain ⟨m0, m1, m2, m3, m4, m5, m6, m7, m8⟩ := put9_of (x0 := .int .i64 k) (x1 := .slice pP ps.length cP) (x2 := .slice pt ts.length ct) (x3 := .int .i64 b) (x4 := .int .i64 d) (x5 := .int .i64 n) (x6 := .int .i64 e0) (x7 := .slice pm ms.length cm) (x8 := .string str) d_r_0 d_r_1 d_r_2 d_r_3 d_r_4 d_r_5 d_r_6 d_r_7 d_r_8
      go_wp2
      rw [HU.out]
      exact bodyPost_ret (v := .tuple #[.agg #[.int .i64 k, .slice pP ps.length cP, .slice pt ts.length ct, .int .i64 b, .int .i64 d, .int .i64 n, .int .i64 e0, .slice pm ms.length cm, .string str], .int .i64 0]) (by simp [results, Tryd.results15, go_sem, m0, m1, m2, m3, m4, m5, m6, m7, m8]) rfl ⟨_, _, _, rfl, put9_evr ⟨HPS.out, HTS.out, HMS.out, HX0.out.sz⟩ (HPO.out.mono (by omega)) (HOT.out.mono (by omega)) (HOM.out.mono (by omega)), put9_below hB9 (by omega)⟩
end Go.Proofs.YtnfnonlbokddfaaDoor
