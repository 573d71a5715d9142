/-
  Layer 7: what sounds, event by event, in plain words; runs and the map of tied pitches in memory.
-/
import Derived.Test.YtobhmiknlbjmkaaDoorVoV
import Derived.Test.YtobhmiknlbjmkaaDoorVoE
namespace Go.Proofs.YtobhmiknlbjmkaaDoor
open Go.RowKit Go.Maps
open Evt (P3 Ev PT)
open Voi (R2 Sp Turns Run)

namespace Voi
/-- One item of a list turned. -/
def upd {α : Type} (f : α → α) : Nat → List α → List α
  | _, [] => []
  | 0, x :: l => f x :: l
  | q + 1, x :: l => x :: upd f q l
theorem upd_length {α : Type} (f : α → α) : ∀ (q : Nat) (l : List α), (upd f q l).length = l.length
  | _, [] => by cases ‹Nat› <;> rfl
  | 0, x :: l => rfl
  | q + 1, x :: l => by simp [upd, upd_length f q l]
theorem upd_map {α β : Type} (f : α → α) (f' : β → β) (g : α → β) (h : ∀ x, g (f x) = f' (g x)) : ∀ (q : Nat) (l : List α), (upd f q l).map g = upd f' q (l.map g)
  | _, [] => by cases ‹Nat› <;> rfl
  | 0, x :: l => by simp [upd, h]
  | q + 1, x :: l => by simp [upd, upd_map f f' g h q l]
theorem upd_mem {α : Type} (f : α → α) : ∀ (q : Nat) (l : List α) (x : α), x ∈ upd f q l → ∃ y ∈ l, x = y ∨ x = f y
  | q, [], x, h => by cases q <;> simp [upd] at h
  | 0, y :: l, x, h => by
    rcases List.mem_cons.1 h with rfl | h
    · exact ⟨y, List.mem_cons_self, .inr rfl⟩
    · exact ⟨x, List.mem_cons_of_mem _ h, .inl rfl⟩
  | q + 1, y :: l, x, h => by
    rcases List.mem_cons.1 h with rfl | h
    · exact ⟨x, List.mem_cons_self, .inl rfl⟩
    · obtain ⟨z, hz, e⟩ := upd_mem f q l x h
      exact ⟨z, List.mem_cons_of_mem _ hz, e⟩
theorem upd_flat {α : Type} {enc : α → List Value} {f : α → α} {a b : Value} (hl : ∀ x, (enc x).length = 10) (hf : ∀ x, enc (f x) = ((enc x).set 8 a).set 9 b) : ∀ (q : Nat) (l : List α), q < l.length → ((l.flatMap enc).set (q * 10 + 8) a).set (q * 10 + 9) b = (upd f q l).flatMap enc
  | q, [], h => by simp at h
  | 0, x :: l, _ => by
    have hx := hl x
    rw [upd, List.flatMap_cons, List.flatMap_cons, hf]
    rw [List.set_append_left _ _ (by omega), List.set_append_left _ _ (by rw [List.length_set]; omega)]
  | q + 1, x :: l, h => by
    have hx := hl x
    rw [upd, List.flatMap_cons, List.flatMap_cons, ← upd_flat hl hf q l (by simpa using h)]
    rw [List.set_append_right _ _ (by omega), List.set_append_right _ _ (by omega), hx]
    congr 2
    · congr 1
      omega
    · omega
/-- Which run goes on with a pitch. -/
def tdAt : List (P3 × Nat) → P3 → Option Nat
  | [], _ => none
  | x :: l, p => if x.1 = p then some x.2 else tdAt l p
theorem tdAt_mem : ∀ {l : List (P3 × Nat)} {p : P3} {n : Nat}, tdAt l p = some n → (p, n) ∈ l
  | [], _, _, h => by cases h
  | x :: l, p, n, h => by
    rw [tdAt] at h
    split at h
    · rename_i e
      cases h
      subst e
      exact List.mem_cons_self
    · exact List.mem_cons_of_mem _ (tdAt_mem h)
abbrev St := List Run × List (P3 × Nat)
/-- A pitch of an event, tied or not, behind the events ahead, of which td ties. -/
def addP (x : Sp) (td : List (P3 × Nat)) (a : St) (q : PT) : St :=
  match tdAt td q.1 with
  | some n => (upd (fun r => { r with e := x.tt }) n a.1, if q.2 then (q.1, n) :: a.2 else a.2)
  | none => (a.1 ++ [⟨q.1, x.fr, x.y.1.ms, x.tt⟩], if q.2 then (q.1, a.1.length) :: a.2 else a.2)
def add (x : Sp) (a : St) : St := (Evt.pts x.y.1).foldl (addP x a.2) (a.1, [])
/-- What sounds of events with their places. -/
def runsOf (l : List Sp) : St := l.foldl (fun a x => add x a) ([], [])
theorem addP_len (x : Sp) (td : List (P3 × Nat)) (a : St) (q : PT) : a.1.length ≤ (addP x td a q).1.length ∧ (addP x td a q).1.length ≤ a.1.length + 1 := by
  unfold addP
  split
  · simp [upd_length]
  · simp
end Voi
def tI (n : Int) : DU := .lit (.int .i64 n)
abbrev OwnsN (w : World) (b n : Nat) (D : DU) : Prop := w.ownsMap Tryd.prog 41 (plainElem Tryd.prog 3) b n D
theorem ownsN_block {W W' : World} {b n : Nat} {D : DU} (h : OwnsN W b n D) (e : W'.heap[b]? = W.heap[b]?) : OwnsN W' b n D := by
  obtain ⟨es, clock, hb, F, hs, hD⟩ := h
  exact ⟨es, clock, e.trans hb, F, hs, hD⟩
theorem ownsN_map {W : World} {b n : Nat} {D : DU} (h : OwnsN W b n D) : ∃ es c, W.heap[b]? = some (.map es c) := by
  obtain ⟨es, clock, hb, _⟩ := h
  exact ⟨es, clock, hb⟩
/-- The map holds just these. -/
structure MapN (D : DU) (td : List (P3 × Nat)) : Prop where
  isMap : IsMap D
  has : ∀ p, Evt.rgt p = true → Maps.has D (kl p) = (Voi.tdAt td p).isSome
  at_ : ∀ p, Evt.rgt p = true → D.atKey (kl p) (tI 0) = tI (((Voi.tdAt td p).getD 0 : Nat) : Int)
theorem MapN.start : MapN (.map []) [] := ⟨isMap_empty, fun _ _ => rfl, fun _ _ => rfl⟩
theorem MapN.step {D : DU} {td : List (P3 × Nat)} (h : MapN D td) {p : P3} (hp : Evt.rgt p = true) (n : Nat) : MapN (D.put (kl p) (tI (n : Int))) ((p, n) :: td) := by
  refine ⟨h.isMap.put _ _, fun q hq => ?_, fun q hq => ?_⟩
  · by_cases e : q = p
    · subst e; rw [has_put_same h.isMap (kl_key hp), Voi.tdAt, if_pos rfl]; rfl
    · rw [has_put_other (kl_ne hq hp e), h.has q hq, Voi.tdAt, if_neg (fun k => e k.symm)]
  · by_cases e : q = p
    · subst e; rw [atKey_put_same h.isMap (kl_key hp), Voi.tdAt, if_pos rfl]; rfl
    · rw [atKey_put_other (kl_ne hq hp e), h.at_ q hq, Voi.tdAt, if_neg (fun k => e k.symm)]
theorem zeroInt (w : World) : (zeroValue 3).run Tryd.prog w = .ok (.int .i64 0) w := by kernel_rfl
/-- The map of tied pitches: none as yet, or one of one's own. -/
def TiedIs (W : World) (M N : Nat) (mv : Value) (td : List (P3 × Nat)) : Prop :=
  (mv = .map none ∧ td = []) ∨ ∃ b n D, mv = .map (some b) ∧ M ≤ b ∧ b < N ∧ OwnsN W b n D ∧ MapN D td
theorem TiedIs.run {W : World} {M N : Nat} {mv : Value} {td : List (P3 × Nat)} (h : TiedIs W M N mv td) {p : P3} (hp : Evt.rgt p = true) :
    (Instr.lookup 79 mv (pt p.1 p.2.1 p.2.2) true).run Tryd.prog W = .ok (.tuple #[.int .i64 (((Voi.tdAt td p).getD 0 : Nat) : Int), .bool (Voi.tdAt td p).isSome]) W := by
  rcases h with ⟨rfl, rfl⟩ | ⟨b, n, D, rfl, _, _, hown, hm⟩
  · exact Maps.look_nil (w := W) true keyedP Tryd.underlying79 (zeroInt W) (key_of hp)
  · obtain ⟨v, ps, hrun, hv⟩ := hown.look_ok keyedP Tryd.underlying79 (zeroInt W) (plainElem_int (q := .i64) (a := 0) Tryd.underlying3 (by decide)) (key_of hp)
    obtain ⟨c, rfl, hc, _⟩ := plainElem_int_inv Tryd.underlying3 hv
    have h1 := congrArg Prod.fst hc
    change D.atKey (kl p) (tI 0) = tI c at h1
    rw [hm.at_ p hp] at h1
    have h2 : (((Voi.tdAt td p).getD 0 : Nat) : Int) = c := by unfold tI at h1; cases h1; rfl
    rw [hrun, hm.has p hp, h2]
theorem TiedIs.keep {W W' : World} {M N N' : Nat} {mv : Value} {td : List (P3 × Nat)} (h : TiedIs W M N mv td) (hN : N ≤ N') (hb : ∀ b es c, M ≤ b → b < N → W.heap[b]? = some (.map es c) → W'.heap[b]? = W.heap[b]?) : TiedIs W' M N' mv td := by
  rcases h with h | ⟨b, n, D, e, h1, h2, hown, hm⟩
  · exact .inl h
  · obtain ⟨es, c, hbk⟩ := ownsN_map hown
    exact .inr ⟨b, n, D, e, h1, Nat.lt_of_lt_of_le h2 hN, ownsN_block hown (hb b es c h1 h2 hbk), hm⟩
theorem Sl.block {α : Type} {k : Nat} {enc : α → List Value} {W W' : World} {v : Value} {l : List α} (h : Sl k enc W v l) (hb : ∀ g, v.ownBlock = some g → W'.heap[g]? = W.heap[g]?) : Sl k enc W' v l := by
  obtain ⟨p, cap, rfl, hl, hc, hx⟩ := h
  exact ⟨p, cap, rfl, hl, hc, fun i x hi => by
    obtain ⟨b, o, e, c⟩ := hx i x hi
    subst e
    exact ⟨b, o, rfl, fun j u hu => (World.cell?_of_block (w := W) (hb b rfl)).trans (c j u hu)⟩⟩
/-- The record of runs and tied pitches, in the box R; all that is its own lies from M on and ahead of N. -/
structure RecI (W : World) (R M N : Nat) (rv mv : Value) (l : List RuM) (td : List (P3 × Nat)) : Prop where
  bx : W.heap[R]? = some (.cells #[rv, mv] 81 (0, 0))
  row : W.ownsRow M 114 10 rv l.length (l.flatMap encRu)
  rN : ∀ g, rv.ownBlock = some g → g < N
  mks : ∀ x ∈ l, Ints W x.2 x.1.m ∧ ∀ g, x.2.ownBlock = some g → M ≤ g ∧ g < N ∧ rv.ownBlock ≠ some g
  td : TiedIs W M N mv td
theorem cells_first {W : World} {B : Nat} {u v x : Value} {t : TypeId} {f : Nat × Nat} (h : W.heap[B]? = some (.cells #[u, v] t f)) : (W.setCell ⟨B, 0, none⟩ x).heap[B]? = some (.cells #[x, v] t f) := by
  obtain ⟨hlt, hk⟩ := Array.getElem?_eq_some_iff.1 h
  unfold World.setCell
  rw [Array.getElem?_eq_getElem (by simp only [Array.size_modify]; exact hlt), Array.getElem_modify_self, hk]
  rfl
theorem cells_second {W : World} {B : Nat} {u v x : Value} {t : TypeId} {f : Nat × Nat} (h : W.heap[B]? = some (.cells #[u, v] t f)) : (W.setCell ⟨B, 1, none⟩ x).heap[B]? = some (.cells #[u, x] t f) := by
  obtain ⟨hlt, hk⟩ := Array.getElem?_eq_some_iff.1 h
  unfold World.setCell
  rw [Array.getElem?_eq_getElem (by simp only [Array.size_modify]; exact hlt), Array.getElem_modify_self, hk]
  rfl
theorem map_ne_row {W : World} {base k n : Nat} {e : TypeId} {v : Value} {xs : List Value} (h : W.ownsRow base e k v n xs) {b : Nat} {es : Array MapEntry} {c : Nat} (hb : W.heap[b]? = some (.map es c)) : v.ownBlock ≠ some b := fun ev => by
  rcases h.2 with ⟨rfl, _⟩ | ⟨g, cap, cur, rfl, _, hg, _⟩
  · cases ev
  · have : g = b := by simpa [Value.ownBlock] using ev
    subst this
    rw [hb] at hg
    cases hg
/-- All that is the record's own lies as it lay. -/
theorem RecI.keep {W W' : World} {R M N N' : Nat} {rv mv : Value} {l : List RuM} {td : List (P3 × Nat)} (h : RecI W R M N rv mv l td) (hN : N ≤ N') (hR : W'.heap[R]? = W.heap[R]?) (hb : ∀ g, M ≤ g → g < N → W'.heap[g]? = W.heap[g]?) : RecI W' R M N' rv mv l td :=
  ⟨hR.trans h.bx, own_block h.row (fun g hg => hb g (h.row.lt g hg).1 (h.rN g hg)), fun g hg => Nat.lt_of_lt_of_le (h.rN g hg) hN,
    fun x hx => ⟨(h.mks x hx).1.block (fun g hg => hb g ((h.mks x hx).2 g hg).1 ((h.mks x hx).2 g hg).2.1), fun g hg => by have := (h.mks x hx).2 g hg; exact ⟨this.1, by omega, this.2.2⟩⟩,
    h.td.keep hN (fun b _ _ h1 h2 _ => hb b h1 h2)⟩
theorem RecI.later {W W' : World} {R M N : Nat} {rv mv : Value} {l : List RuM} {td : List (P3 × Nat)} (h : RecI W R M N rv mv l td) (hb : Below W.heap.size W W') (hN : N ≤ W.heap.size) : RecI W' R M N rv mv l td :=
  h.keep (Nat.le_refl _) (hb.block R (lt_of_block h.bx)) (fun g _ hg => hb.block g (by omega))
theorem RecI.mono {W : World} {R M N N' : Nat} {rv mv : Value} {l : List RuM} {td : List (P3 × Nat)} (h : RecI W R M N rv mv l td) (hN : N ≤ N') : RecI W R M N' rv mv l td := h.keep hN rfl (fun _ _ _ => rfl)
def toE (x y : Int) (r : Run) : Run := { r with e := (x, y) }
def toM (x y : Int) (r : RuM) : RuM := (toE x y r.1, r.2)
theorem lenRu : ∀ x, (encRu x).length = 10 := fun _ => rfl
theorem encRu_to (x y : Int) (r : RuM) : encRu (toM x y r) = ((encRu r).set 8 (.int .i64 x)).set 9 (.int .i64 y) := rfl
/-- A run's end turned. -/
theorem RecI.put {W : World} {R M N : Nat} {mv : Value} {l : List RuM} {td : List (P3 × Nat)} {g cap n q : Nat} {x y : Int} (h : RecI W R M N (.slice (some ⟨g, 0, none⟩) n cap) mv l td) (hn : n = l.length) (hq : q < l.length) (hR : R < M) :
    RecI ((W.setCell ⟨g, q * 10 + 8, none⟩ (.int .i64 x)).setCell ⟨g, q * 10 + 9, none⟩ (.int .i64 y)) R M N (.slice (some ⟨g, 0, none⟩) n cap) mv (Voi.upd (toM x y) q l) td := by
  subst hn
  have hg := (h.row.lt g rfl)
  have s1 := h.row.stored (q * 10 + 8) (.int .i64 x)
  have s2 := s1.1.stored (q * 10 + 9) (.int .i64 y)
  have far : ∀ k, k ≠ g → ((W.setCell ⟨g, q * 10 + 8, none⟩ (.int .i64 x)).setCell ⟨g, q * 10 + 9, none⟩ (.int .i64 y)).heap[k]? = W.heap[k]? := fun k hk => (Below.heap_setCell _ _ _ _ hk).trans (Below.heap_setCell _ _ _ _ hk)
  refine ⟨(far R (by omega)).trans h.bx, ?_, h.rN, fun z hz => ?_, h.td.keep (Nat.le_refl _) (fun b es c _ _ hb => far b (fun e => map_ne_row h.row hb (by rw [e]; rfl)))⟩
  · have := s2.1
    rw [Voi.upd_flat lenRu (encRu_to x y) q l hq] at this
    rw [Voi.upd_length]
    exact this
  · obtain ⟨z0, hz0, e⟩ := Voi.upd_mem _ _ _ _ hz
    have e1 : z.2 = z0.2 ∧ z.1.m = z0.1.m := by rcases e with rfl | rfl <;> exact ⟨rfl, rfl⟩
    rw [e1.1, e1.2]
    exact ⟨(h.mks z0 hz0).1.block (fun k hk => far k (fun e => ((h.mks z0 hz0).2 k hk).2.2 (by rw [e]; rfl))), (h.mks z0 hz0).2⟩
/-- A run more. -/
theorem RecI.push {V u w5 : World} {R M : Nat} {rv mv m' : Value} {l : List RuM} {td : List (P3 × Nat)} {r : Run} {o : Obj} {g cap n : Nat} (h : RecI V R M V.heap.size rv mv l td) (hb : Below V.heap.size V u) (hI : Ints u m' r.m) (hO : Own V.heap.size m') (hi : Inn u m')
    (hn : n = l.length + 1) (hown : w5.ownsRow M 114 10 (.slice (some ⟨g, 0, none⟩) n cap) n (l.flatMap encRu ++ encRu (r, m'))) (hg : (u.alloc o).grownBy w5 rv.ownBlock) (hat : rv.ownBlock = some g ∨ g = (u.alloc o).heap.size) (hR : R < M) (hM : M ≤ V.heap.size) :
    RecI (w5.setCell ⟨R, 0, none⟩ (.slice (some ⟨g, 0, none⟩) n cap)) R M w5.heap.size (.slice (some ⟨g, 0, none⟩) n cap) mv (l ++ [(r, m')]) td := by
  subst hn
  have hu := h.later hb (Nat.le_refl _)
  have zu := hb.size
  have z5 := hg.size
  simp only [World.size_alloc] at z5
  have keep : ∀ k, k < u.heap.size → rv.ownBlock ≠ some k → w5.heap[k]? = u.heap[k]? := fun k hk hne => (hg.block k (by simp; omega) (fun e => hne e.symm)).trans (Below.heap_alloc _ _ _ hk)
  have hgM := hown.lt g rfl
  have rneR : rv.ownBlock ≠ some R := fun e => by have := (hu.row.lt R e).1; omega
  have zR := lt_of_block hu.bx
  have hbx : w5.heap[R]? = some (.cells #[rv, mv] 81 (0, 0)) := (keep R zR rneR).trans hu.bx
  have far : ∀ k, k ≠ R → (w5.setCell ⟨R, 0, none⟩ (.slice (some ⟨g, 0, none⟩) (l.length + 1) cap)).heap[k]? = w5.heap[k]? := fun k hk => Below.heap_setCell _ _ _ _ hk
  have hgk : ∀ k, k < u.heap.size → rv.ownBlock ≠ some k → (Value.slice (some ⟨g, 0, none⟩) (l.length + 1) cap).ownBlock ≠ some k := fun k hk hne e => by
    have e1 : g = k := by simpa [Value.ownBlock] using e
    rcases hat with h1 | h1
    · exact hne (e1 ▸ h1)
    · simp at h1; omega
  refine ⟨cells_first hbx, ?_, fun k hk => (hown.lt k hk).2, fun z hz => ?_, ?_⟩
  · refine own_set ?_ hR
    rw [List.length_append, List.flatMap_append]
    simpa using hown
  · rcases List.mem_append.1 hz with hz | hz
    · have hm := h.mks z hz
      refine ⟨(hu.mks z hz).1.block (fun k hk => ?_), fun k hk => ?_⟩
      · have := hm.2 k hk
        exact (far k (by omega)).trans (keep k (by omega) this.2.2)
      · have := hm.2 k hk
        exact ⟨this.1, by omega, hgk k (by omega) this.2.2⟩
    · simp at hz
      subst hz
      dsimp only
      have hne : ∀ k, m'.ownBlock = some k → V.heap.size ≤ k ∧ k < u.heap.size ∧ rv.ownBlock ≠ some k := fun k hk => ⟨hO k hk, hi k hk, fun e => by have := h.rN k e; have := hO k hk; omega⟩
      refine ⟨hI.block (fun k hk => ?_), fun k hk => ?_⟩
      · have := hne k hk
        exact (far k (by omega)).trans (keep k this.2.1 this.2.2)
      · have := hne k hk
        exact ⟨by omega, by omega, hgk k this.2.1 this.2.2⟩
  · exact hu.td.keep (by omega) (fun b es c h1 h2 hbk => (far b (by omega)).trans (keep b (by omega) (map_ne_row hu.row hbk)))
end Go.Proofs.YtobhmiknlbjmkaaDoor
