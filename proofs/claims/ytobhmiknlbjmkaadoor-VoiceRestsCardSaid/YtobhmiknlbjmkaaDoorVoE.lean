/-
  The contract of voice's measured: what sounds, with its lengths.
-/
import Derived.Test.YtobhmiknlbjmkaaDoorVoD
import Derived.Maps.AppendAt
import Derived.Deep.CutBlock
import Derived.Deep.DeepCutAuto
import Derived.OwnWalk
namespace Go.Proofs.YtobhmiknlbjmkaaDoor
open Go.RowKit
open Evt (P3 Ev)
open Voi (R2)

namespace Voi
/-- One ratio less another one, and the error. -/
def subR (a b : R2) : R2 × Int := ((binN (Rat.right a.1 a.2 && Rat.right b.1 b.2) (a.1 * b.2 - b.1 * a.2) (a.2 * b.2), binD (Rat.right a.1 a.2 && Rat.right b.1 b.2) (a.1 * b.2 - b.1 * a.2) (a.2 * b.2)), binE (Rat.right a.1 a.2 && Rat.right b.1 b.2) (a.1 * b.2 - b.1 * a.2) (a.2 * b.2))
/-- A sound, and the place up to which ties have led it. -/
structure Run where
  p : P3
  a : R2
  m : List Int
  e : R2
/-- A sound. -/
structure Snd where
  p : P3
  a : R2
  l : R2
  m : List Int
def sndOf (r : Run) : Snd := ⟨r.p, r.a, (subR r.e r.a).1, r.m⟩
/-- The first error of lengths. -/
def measE : List Run → Int
  | [] => 0
  | r :: l => if (subR r.e r.a).2 = 0 then measE l else (subR r.e r.a).2
def okR (r : Run) : Bool := decide ((subR r.e r.a).2 = 0)
theorem measE_ok : ∀ {l : List Run}, l.all okR = true → measE l = 0
  | [], _ => rfl
  | r :: l, h => by
    rw [List.all_cons, Bool.and_eq_true] at h
    rw [measE, if_pos (of_decide_eq_true h.1), measE_ok h.2]
theorem measE_bad : ∀ {l : List Run} {k : Nat} {r : Run}, (l.take k).all okR = true → l[k]? = some r → (subR r.e r.a).2 ≠ 0 → measE l = (subR r.e r.a).2
  | [], k, r, _, h, _ => by simp at h
  | x :: l, 0, r, _, h, hn => by simp at h; subst h; rw [measE, if_neg hn]
  | x :: l, k + 1, r, ht, h, hn => by
    rw [List.take_succ_cons, List.all_cons, Bool.and_eq_true] at ht
    rw [measE, if_pos (of_decide_eq_true ht.1)]
    exact measE_bad ht.2 (by simpa using h) hn
end Voi
/-- Runs and sounds with their marks' values. -/
abbrev RuM := Voi.Run × Value
abbrev SoM := Voi.Snd × Value
def encRu (x : RuM) : List Value := [.int .i64 x.1.p.1, .int .i64 x.1.p.2.1, .int .i64 x.1.p.2.2, .int .i64 x.1.a.1, .int .i64 x.1.a.2, .int .i64 0, .int .i64 0, x.2, .int .i64 x.1.e.1, .int .i64 x.1.e.2]
def encSo (x : SoM) : List Value := [.int .i64 x.1.p.1, .int .i64 x.1.p.2.1, .int .i64 x.1.p.2.2, .int .i64 x.1.a.1, .int .i64 x.1.a.2, .int .i64 x.1.l.1, .int .i64 x.1.l.2, x.2]
theorem lenSo : ∀ x, (encSo x).length = 8 := fun _ => rfl
def soOf (x : RuM) : SoM := (Voi.sndOf x.1, x.2)
structure Runs (W : World) (v : Value) (l : List RuM) : Prop where
  row : Sl 10 encRu W v l
  each : ∀ x ∈ l, Ints W x.2 x.1.m
structure Snds (W : World) (v : Value) (l : List SoM) : Prop where
  row : Sl 8 encSo W v l
  each : ∀ x ∈ l, Ints W x.2 x.1.m
theorem Runs.later {W W' : World} {v : Value} {l : List RuM} (h : Runs W v l) (hb : Below W.heap.size W W') : Runs W' v l := ⟨h.row.later hb, fun y hy => (h.each y hy).later hb⟩
theorem Snds.later {W W' : World} {v : Value} {l : List SoM} (h : Snds W v l) (hb : Below W.heap.size W W') : Snds W' v l := ⟨h.row.later hb, fun y hy => (h.each y hy).later hb⟩
theorem runs_at {W : World} {p : Option Addr} {n c : Nat} {l : List RuM} (h : Runs W (.slice p n c) l) {i : Nat} {y : RuM} (hy : l[i]? = some y) : ∃ b o, p = some ⟨b, o, .none⟩ ∧ W.cell? ⟨b, o + i * 10, none⟩ = some (.int .i64 y.1.p.1) ∧ W.cell? ⟨b, o + i * 10 + 1, none⟩ = some (.int .i64 y.1.p.2.1) ∧ W.cell? ⟨b, o + i * 10 + 2, none⟩ = some (.int .i64 y.1.p.2.2) ∧ W.cell? ⟨b, o + i * 10 + 3, none⟩ = some (.int .i64 y.1.a.1) ∧ W.cell? ⟨b, o + i * 10 + 4, none⟩ = some (.int .i64 y.1.a.2) ∧ W.cell? ⟨b, o + i * 10 + 5, none⟩ = some (.int .i64 0) ∧ W.cell? ⟨b, o + i * 10 + 6, none⟩ = some (.int .i64 0) ∧ W.cell? ⟨b, o + i * 10 + 7, none⟩ = some (y.2) ∧ W.cell? ⟨b, o + i * 10 + 8, none⟩ = some (.int .i64 y.1.e.1) ∧ W.cell? ⟨b, o + i * 10 + 9, none⟩ = some (.int .i64 y.1.e.2) := by
  obtain ⟨p', c', e, _, _, hc⟩ := h.row
  cases e
  obtain ⟨b, o, e, hc⟩ := hc i y hy
  exact ⟨b, o, e, hc 0 _ rfl, hc 1 _ rfl, hc 2 _ rfl, hc 3 _ rfl, hc 4 _ rfl, hc 5 _ rfl, hc 6 _ rfl, hc 7 _ rfl, hc 8 _ rfl, hc 9 _ rfl⟩
theorem infoSo : (Tryd.prog.info? 44).map (fun i => (i.zero, i.size, i.bytes)) = some (some (.agg #[.int .i64 0, .int .i64 0, .int .i64 0, .int .i64 0, .int .i64 0, .int .i64 0, .int .i64 0, .slice none 0 0]), 8, 80) := by kernel_rfl
theorem cells8_new (w : World) (t : TypeId) (z : SoM) {n : Nat} (hn : w.heap.size = n) : ∀ (jj : Nat) (u : Value), (encSo z)[jj]? = some u → (w.alloc (.cells (encSo z).toArray t)).cell? (Addr.add ⟨n, 0, none⟩ jj) = some u := by
  subst hn
  intro jj u hu
  rcases jj with _ | _ | _ | _ | _ | _ | _ | _ | jj
  all_goals (simp [encSo] at hu)
  all_goals (subst hu; simp [Addr.add, encSo])
theorem own_set_ne {w : World} {base B o : Nat} {x : Value} {e : TypeId} {size : Nat} {v : Value} {n : Nat} {xs : List Value} (h : w.ownsRow base e size v n xs) (hB : v.ownBlock ≠ some B) : (w.setCell ⟨B, o, none⟩ x).ownsRow base e size v n xs :=
  h.kept (row := some B) ⟨rfl, rfl, rfl, by simp [World.setCell], fun k _ hk => Below.heap_setCell _ _ _ _ (fun e => hk (by rw [e]))⟩ (.inr hB)
theorem pushed_below {base n k : Nat} {W W0 w2 : World} {v : Value} {e : TypeId} {xs : List Value} {o : Obj} (h : W.ownsRow base e k v n xs) (hb : Below base W0 W) (hs : base ≤ W.heap.size) (hg : (W.alloc o).grownBy w2 v.ownBlock) : Below base W0 w2 :=
  (hb.alloc hs o).trans ((Below.refl _ _).grown hg (by simp; omega) (fun j hj => (h.lt j hj).1))
theorem own_ne {w : World} {base : Nat} {e : TypeId} {size : Nat} {v : Value} {n : Nat} {xs : List Value} (h : w.ownsRow base e size v n xs) : v.ownBlock ≠ some w.heap.size := fun e => Nat.lt_irrefl _ (h.lt _ e).2
theorem oneSo (z : SoM) (p : Option Addr) (n c : Nat) (hz : z.2 = .slice p n c) : ∀ u ∈ encSo z, u.oneCell' = true := by
  intro u hu
  simp only [encSo, hz, List.mem_cons, List.not_mem_nil, or_false] at hu
  rcases hu with rfl | rfl | rfl | rfl | rfl | rfl | rfl | rfl <;> rfl
/-- What measured answers. -/
def MeasPost (l : List RuM) (w : World) (ed : Ending) (w' : World) : Prop := ((Voi.measE (l.map Prod.fst) = 0 → ∃ u, ed = .returned (.tuple #[u, .int .i64 0]) ∧ Snds w' u (l.map soOf) ∧ Own w.heap.size u) ∧ (Voi.measE (l.map Prod.fst) ≠ 0 → ed = .returned (.tuple #[.slice none 0 0, .int .i64 (Voi.measE (l.map Prod.fst))]))) ∧ Below w.heap.size w w'

set_option maxRecDepth 100000 in
set_option maxHeartbeats 4000000 in
theorem measured_any (v : Value) (l : List RuM) (w : World) (h : Runs w v l) (hl : l.length ≤ 1000000) :
    Calls Tryd.prog 29 #[v] w (MeasPost l w) := by
  obtain ⟨i0, hi, hz0, hz1, hz2⟩ := info_parts infoSo
  have HC := Lib.hid h
  obtain ⟨pp, cc, rfl, hl0⟩ := sl_shape h.row
  clear h
  go_enter Tryd.func29, Tryd.ntmps29
  go_wp2
  go_loopw [4, 11] (fun u i wr => ∃ k : Nat, k ≤ l.length ∧ i = .int .i64 (k : Int) ∧ ((l.map Prod.fst).take k).all Voi.okR = true ∧ wr.ownsRow w.heap.size 44 8 u k (((l.take k).map soOf).flatMap encSo) ∧ Below w.heap.size w wr) (fun _ i _ => l.length - (intOf i).toNat)
  case atStart => exact ⟨0, Nat.zero_le _, rfl, rfl, World.ownsRow_nil _ _ _ _, Below.refl _ _⟩
  case round =>
    obtain ⟨k, hk, rfl, he, hown, hB⟩ := hrel
    have HE := Lib.hid he
    have HO := Lib.hid hown
    clear he hown
    by_cases hlt : k < l.length
    · obtain ⟨x, hx⟩ : ∃ x, l[k]? = some x := ⟨_, List.getElem?_eq_getElem hlt⟩
      have hm := HC.out.each x (List.mem_of_getElem? hx)
      obtain ⟨b0, o0, e9, h0, h1, h2, h3, h4, h5, h6, h7, h8, h9⟩ := runs_at HC.out hx
      cases e9
      obtain ⟨⟨⟨p0, p1, p2⟩, ⟨a0, a1⟩, ms, ⟨e0, e1⟩⟩, mv⟩ := x
      dsimp only at hm
      obtain ⟨pm, cm, rfl, _⟩ := sl_shape hm
      dsimp only at hm h0 h1 h2 h3 h4 h5 h6 h7 h8 h9
      replace h0 := cell_later hB h0
      replace h1 := cell_later hB h1
      replace h2 := cell_later hB h2
      replace h3 := cell_later hB h3
      replace h4 := cell_later hB h4
      replace h5 := cell_later hB h5
      replace h6 := cell_later hB h6
      replace h7 := cell_later hB h7
      replace h8 := cell_later hB h8
      replace h9 := cell_later hB h9
      have HX := Lib.hid hx
      have HM := Lib.hid hm
      clear hx hm
      have hltI : (k : Int) < (l.length : Int) := by omega
      obtain ⟨⟨⟨N, D⟩, E⟩, hsub⟩ : ∃ z, Voi.subR (e0, e1) (a0, a1) = z := ⟨_, rfl⟩
      have HS := Lib.hid hsub
      have HCT : Hid (∀ w : World, Calls Tryd.prog 54 #[rt e0 e1, rt a0 a1] w fun e w' => e = .returned (rv N D E) ∧ Below w.heap.size w w') := Lib.hid (fun w => by
        have h := sub_any e0 e1 a0 a1 w
        have e1' : Voi.subR (e0, e1) (a0, a1) = ((N, D), E) := HS.out
        unfold Voi.subR at e1'
        have e2 := Prod.mk.inj e1'
        have e3 := Prod.mk.inj e2.1
        dsimp only at e2 e3
        rw [e2.2, e3.1, e3.2] at h
        exact h)
      clear hsub
      have zb : b0 < wr.heap.size := World.block_lt_of_cell? _ _ h0
      go_wp2_with fail
      refine (HCT.out _).mono ?_
      rintro e w2 ⟨rfl, hb2⟩
      clear HCT
      have c0 : w2.cell? ⟨wr.heap.size, 0, none⟩ = some (.int .i64 p0) := (hb2.cell (p := ⟨wr.heap.size, 0, none⟩) (by simp)).trans (by go_simp)
      have f0 : w2.frozen? ⟨wr.heap.size, 0, none⟩ = false := (hb2.frozen (p := ⟨wr.heap.size, 0, none⟩) (by simp)).trans (by go_simp)
      have c1 : w2.cell? ⟨wr.heap.size, 1, none⟩ = some (.int .i64 p1) := (hb2.cell (p := ⟨wr.heap.size, 1, none⟩) (by simp)).trans (by go_simp)
      have f1 : w2.frozen? ⟨wr.heap.size, 1, none⟩ = false := (hb2.frozen (p := ⟨wr.heap.size, 1, none⟩) (by simp)).trans (by go_simp)
      have c2 : w2.cell? ⟨wr.heap.size, 2, none⟩ = some (.int .i64 p2) := (hb2.cell (p := ⟨wr.heap.size, 2, none⟩) (by simp)).trans (by go_simp)
      have f2 : w2.frozen? ⟨wr.heap.size, 2, none⟩ = false := (hb2.frozen (p := ⟨wr.heap.size, 2, none⟩) (by simp)).trans (by go_simp)
      have c3 : w2.cell? ⟨wr.heap.size, 3, none⟩ = some (.int .i64 a0) := (hb2.cell (p := ⟨wr.heap.size, 3, none⟩) (by simp)).trans (by go_simp)
      have f3 : w2.frozen? ⟨wr.heap.size, 3, none⟩ = false := (hb2.frozen (p := ⟨wr.heap.size, 3, none⟩) (by simp)).trans (by go_simp)
      have c4 : w2.cell? ⟨wr.heap.size, 4, none⟩ = some (.int .i64 a1) := (hb2.cell (p := ⟨wr.heap.size, 4, none⟩) (by simp)).trans (by go_simp)
      have f4 : w2.frozen? ⟨wr.heap.size, 4, none⟩ = false := (hb2.frozen (p := ⟨wr.heap.size, 4, none⟩) (by simp)).trans (by go_simp)
      have c5 : w2.cell? ⟨wr.heap.size, 5, none⟩ = some (.int .i64 0) := (hb2.cell (p := ⟨wr.heap.size, 5, none⟩) (by simp)).trans (by go_simp)
      have f5 : w2.frozen? ⟨wr.heap.size, 5, none⟩ = false := (hb2.frozen (p := ⟨wr.heap.size, 5, none⟩) (by simp)).trans (by go_simp)
      have c6 : w2.cell? ⟨wr.heap.size, 6, none⟩ = some (.int .i64 0) := (hb2.cell (p := ⟨wr.heap.size, 6, none⟩) (by simp)).trans (by go_simp)
      have f6 : w2.frozen? ⟨wr.heap.size, 6, none⟩ = false := (hb2.frozen (p := ⟨wr.heap.size, 6, none⟩) (by simp)).trans (by go_simp)
      have c7 : w2.cell? ⟨wr.heap.size, 7, none⟩ = some (.slice pm ms.length cm) := (hb2.cell (p := ⟨wr.heap.size, 7, none⟩) (by simp)).trans (by go_simp)
      have f7 : w2.frozen? ⟨wr.heap.size, 7, none⟩ = false := (hb2.frozen (p := ⟨wr.heap.size, 7, none⟩) (by simp)).trans (by go_simp)
      have c8 : w2.cell? ⟨wr.heap.size, 8, none⟩ = some (.int .i64 e0) := (hb2.cell (p := ⟨wr.heap.size, 8, none⟩) (by simp)).trans (by go_simp)
      have f8 : w2.frozen? ⟨wr.heap.size, 8, none⟩ = false := (hb2.frozen (p := ⟨wr.heap.size, 8, none⟩) (by simp)).trans (by go_simp)
      have c9 : w2.cell? ⟨wr.heap.size, 9, none⟩ = some (.int .i64 e1) := (hb2.cell (p := ⟨wr.heap.size, 9, none⟩) (by simp)).trans (by go_simp)
      have f9 : w2.frozen? ⟨wr.heap.size, 9, none⟩ = false := (hb2.frozen (p := ⟨wr.heap.size, 9, none⟩) (by simp)).trans (by go_simp)
      have hB1 : Below w.heap.size w (wr.alloc (.cells #[.int .i64 p0, .int .i64 p1, .int .i64 p2, .int .i64 a0, .int .i64 a1, .int .i64 0, .int .i64 0, .slice pm ms.length cm, .int .i64 e0, .int .i64 e1] 114)) := hB.alloc hB.size _
      have hB2 := below_two hB1 hb2
      have HO2 := Lib.hid (own_later (HO.out.alloc (.cells #[.int .i64 p0, .int .i64 p1, .int .i64 p2, .int .i64 a0, .int .i64 a1, .int .i64 0, .int .i64 0, .slice pm ms.length cm, .int .i64 e0, .int .i64 e1] 114)) hb2)
      have zr : wr.heap.size < w2.heap.size := World.block_lt_of_cell? _ _ c0
      have zw : w.heap.size ≤ wr.heap.size := hB.size
      clear h0 h1 h2 h3 h4 h5 h6 h7 h8 h9 zb hb2
      by_cases hE : E = 0
      case neg =>
        have hne : (E != 0) = true := by simpa using hE
        have HU : Hid (Voi.measE (l.map Prod.fst) = E) := Lib.hid (by
          have := Voi.measE_bad (l := (l.map Prod.fst)) (k := k) (r := ⟨(p0, p1, p2), (a0, a1), ms, (e0, e1)⟩) HE.out (by rw [List.getElem?_map, HX.out]; rfl) (by rw [HS.out]; exact hE)
          rw [this, HS.out])
        have HN := Lib.hid hE
        clear hE
        go_wp2
        go_ret2
        exact ⟨⟨fun h => absurd (HU.out.symm.trans h) HN.out, fun _ => by rw [HU.out]; rfl⟩, alloc_below hB2⟩
      case pos =>
      subst hE
      go_upto_region 9 with fail
      have hne := own_ne HO.out
      have HO3 := Lib.hid ((own_set_ne (o := 6) (x := .int .i64 D) (own_set_ne (o := 5) (x := .int .i64 N) HO2.out hne) hne).alloc (.cells #[.int .i64 N, .int .i64 D] 36))
      have hB3 : Below w.heap.size w (((w2.setCell ⟨wr.heap.size, 5, none⟩ (.int .i64 N)).setCell ⟨wr.heap.size, 6, none⟩ (.int .i64 D)).alloc (.cells #[.int .i64 N, .int .i64 D] 36)) := alloc_below (set1_below (set1_below hB2 zw) zw)
      have d0 : (((w2.setCell ⟨wr.heap.size, 5, none⟩ (.int .i64 N)).setCell ⟨wr.heap.size, 6, none⟩ (.int .i64 D)).alloc (.cells #[.int .i64 N, .int .i64 D] 36)).cell? ⟨wr.heap.size, 0, none⟩ = some (.int .i64 p0) := alloc_cell (set_beside (by decide) (set_beside (by decide) c0))
      have d1 : (((w2.setCell ⟨wr.heap.size, 5, none⟩ (.int .i64 N)).setCell ⟨wr.heap.size, 6, none⟩ (.int .i64 D)).alloc (.cells #[.int .i64 N, .int .i64 D] 36)).cell? ⟨wr.heap.size, 1, none⟩ = some (.int .i64 p1) := alloc_cell (set_beside (by decide) (set_beside (by decide) c1))
      have d2 : (((w2.setCell ⟨wr.heap.size, 5, none⟩ (.int .i64 N)).setCell ⟨wr.heap.size, 6, none⟩ (.int .i64 D)).alloc (.cells #[.int .i64 N, .int .i64 D] 36)).cell? ⟨wr.heap.size, 2, none⟩ = some (.int .i64 p2) := alloc_cell (set_beside (by decide) (set_beside (by decide) c2))
      have d3 : (((w2.setCell ⟨wr.heap.size, 5, none⟩ (.int .i64 N)).setCell ⟨wr.heap.size, 6, none⟩ (.int .i64 D)).alloc (.cells #[.int .i64 N, .int .i64 D] 36)).cell? ⟨wr.heap.size, 3, none⟩ = some (.int .i64 a0) := alloc_cell (set_beside (by decide) (set_beside (by decide) c3))
      have d4 : (((w2.setCell ⟨wr.heap.size, 5, none⟩ (.int .i64 N)).setCell ⟨wr.heap.size, 6, none⟩ (.int .i64 D)).alloc (.cells #[.int .i64 N, .int .i64 D] 36)).cell? ⟨wr.heap.size, 4, none⟩ = some (.int .i64 a1) := alloc_cell (set_beside (by decide) (set_beside (by decide) c4))
      have d5 : (((w2.setCell ⟨wr.heap.size, 5, none⟩ (.int .i64 N)).setCell ⟨wr.heap.size, 6, none⟩ (.int .i64 D)).alloc (.cells #[.int .i64 N, .int .i64 D] 36)).cell? ⟨wr.heap.size, 5, none⟩ = some (.int .i64 N) := alloc_cell (set_beside (by decide) (set_same (held_of c5)))
      have d6 : (((w2.setCell ⟨wr.heap.size, 5, none⟩ (.int .i64 N)).setCell ⟨wr.heap.size, 6, none⟩ (.int .i64 D)).alloc (.cells #[.int .i64 N, .int .i64 D] 36)).cell? ⟨wr.heap.size, 6, none⟩ = some (.int .i64 D) := alloc_cell (set_same (set_held (held_of c6)))
      have d7 : (((w2.setCell ⟨wr.heap.size, 5, none⟩ (.int .i64 N)).setCell ⟨wr.heap.size, 6, none⟩ (.int .i64 D)).alloc (.cells #[.int .i64 N, .int .i64 D] 36)).cell? ⟨wr.heap.size, 7, none⟩ = some (.slice pm ms.length cm) := alloc_cell (set_beside (by decide) (set_beside (by decide) c7))
      have d8 : (((w2.setCell ⟨wr.heap.size, 5, none⟩ (.int .i64 N)).setCell ⟨wr.heap.size, 6, none⟩ (.int .i64 D)).alloc (.cells #[.int .i64 N, .int .i64 D] 36)).cell? ⟨wr.heap.size, 8, none⟩ = some (.int .i64 e0) := alloc_cell (set_beside (by decide) (set_beside (by decide) c8))
      have d9 : (((w2.setCell ⟨wr.heap.size, 5, none⟩ (.int .i64 N)).setCell ⟨wr.heap.size, 6, none⟩ (.int .i64 D)).alloc (.cells #[.int .i64 N, .int .i64 D] 36)).cell? ⟨wr.heap.size, 9, none⟩ = some (.int .i64 e1) := alloc_cell (set_beside (by decide) (set_beside (by decide) c9))
      clear c0 c1 c2 c3 c4 c5 c6 c7 c8 c9 f0 f1 f2 f3 f4 f5 f6 f7 f8 f9 HO HO2 hne hB2 hB1
      have z3 : wr.heap.size < (((w2.setCell ⟨wr.heap.size, 5, none⟩ (.int .i64 N)).setCell ⟨wr.heap.size, 6, none⟩ (.int .i64 D)).alloc (.cells #[.int .i64 N, .int .i64 D] 36)).heap.size := World.block_lt_of_cell? _ _ d0
      generalize ((w2.setCell ⟨wr.heap.size, 5, none⟩ (.int .i64 N)).setCell ⟨wr.heap.size, 6, none⟩ (.int .i64 D)).alloc (.cells #[.int .i64 N, .int .i64 D] 36) = w3 at *
      go_wp2_with (first
        | (at_builtin; refine wpList_append_own _ rfl _ _ 28 rfl w.heap.size 44 i0 (.agg #[.int .i64 0, .int .i64 0, .int .i64 0, .int .i64 0, .int .i64 0, .int .i64 0, .int .i64 0, .slice none 0 0]) 8 80 Tryd.underlying28 hi hz0 hz1 hz2 rfl (by decide) _ _ _ rfl (HO3.out.alloc _) ⟨w3.heap.size, 0, none⟩ 1 1 (encSo (((⟨(p0, p1, p2), (a0, a1), (N, D), ms⟩ : Voi.Snd), Value.slice pm ms.length cm) : SoM)) rfl rfl (cells8_new w3 _ (((⟨(p0, p1, p2), (a0, a1), (N, D), ms⟩ : Voi.Snd), Value.slice pm ms.length cm) : SoM) rfl) (oneSo (((⟨(p0, p1, p2), (a0, a1), (N, D), ms⟩ : Voi.Snd), Value.slice pm ms.length cm) : SoM) _ _ _ rfl) (by unfold maxLen; omega) (by omega) (by simp; omega) ?_; intro v' w4 hown4 hgrow _; have hB4 := pushed_below HO3.out hB3 (by omega) hgrow; have HN4 := Lib.hid hown4; clear hown4 hgrow)
        | fail)
      have HZ : Hid (soOf (⟨(p0, p1, p2), (a0, a1), ms, (e0, e1)⟩, Value.slice pm ms.length cm) = (((⟨(p0, p1, p2), (a0, a1), (N, D), ms⟩ : Voi.Snd), Value.slice pm ms.length cm) : SoM)) := Lib.hid (by unfold soOf Voi.sndOf; dsimp only; rw [HS.out])
      go_wp2
      go_roundw
      case rel => exact ⟨k + 1, by omega, by go_num, Evt.all_take (by rw [List.getElem?_map, HX.out]; rfl) HE.out (by unfold Voi.okR; dsimp only; rw [HS.out]; rfl), by rw [take_succ_at HX.out, List.map_append, List.flatMap_append]; simp only [List.map_cons, List.map_nil, List.flatMap_cons, List.flatMap_nil, List.append_nil]; rw [HZ.out]; exact HN4.out, hB4⟩
      case measure => simp [intOf]; omega
    · obtain rfl : k = l.length := by omega
      have hge : ¬ (l.length : Int) < (l.length : Int) := by omega
      have HU : Hid (Voi.measE (l.map Prod.fst) = 0) := Lib.hid (by have h := HE.out; rw [← List.map_take, List.take_length] at h; exact Voi.measE_ok h)
      have hO := HO.out
      rw [List.take_length] at hO
      have HOW := Lib.hid (own_row hO)
      have HSN : Hid (Snds wr _ (l.map soOf)) := Lib.hid ⟨row_sl lenSo (by rw [List.length_map]) (by rw [List.length_map]; omega) hO, fun z hz => by
        obtain ⟨x, hx, e⟩ := List.mem_map.1 hz
        subst e
        exact (HC.out.each x hx).later hB⟩
      clear hO
      go_wp2
      go_ret2
      exact ⟨⟨fun _ => ⟨_, rfl, HSN.out, HOW.out⟩, fun h => absurd HU.out h⟩, hB⟩
end Go.Proofs.YtobhmiknlbjmkaaDoor
