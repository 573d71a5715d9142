/-
  The map of pitches: keys, what it holds, its look-ups; pitches met once.
-/
import Derived.Test.YtnfnonlbokddfaaDoorEvL
import Derived.Maps.OwnSet
import Derived.Maps.OwnOps
import Derived.Maps.AppendAt
import Derived.Maps.Views
import Derived.DeepKeys4
namespace Go.Proofs.YtnfnonlbokddfaaDoor
open Go.RowKit Go.Maps
open Evt (P3 Ev PT tie)

theorem pLaid : laidOutB Tryd.prog = true := by kernel_rfl
theorem keyedP : Keyed Tryd.prog 57 := Keyed.of_law (deep_law_laid pLaid (m := 2) (by omega) (of_decide_eq_true (by kernel_rfl)) (by kernel_rfl) (by rw [Tryd.underlying57]))
/-- What a pitch reads as, as a key. -/
def kl (p : P3) : Lit := .string (keyBytes [.int .i64 p.1, .int .i64 p.2.1, .int .i64 p.2.2])
def sOf : Option Lit → Option (List UInt8)
  | some (.string b) => some b
  | _ => none
theorem sOf_some {x : Option Lit} {b : List UInt8} (h : sOf x = some b) : x = some (.string b) := by
  unfold sOf at h
  split at h
  · cases h; rfl
  · cases h
theorem keyP_is : ∀ (i : Fin 7) (j : Fin 5) (k : Fin 11), sOf (keyOf Tryd.prog 57 (pt (i.val : Int) ((j.val : Int) - 2) ((k.val : Int) - 1))) = some (keyBytes [.int .i64 (i.val : Int), .int .i64 ((j.val : Int) - 2), .int .i64 ((k.val : Int) - 1)]) := by decide +kernel
theorem key_of {p : P3} (h : Evt.rgt p = true) : keyOf Tryd.prog 57 (pt p.1 p.2.1 p.2.2) = some (kl p) := by
  obtain ⟨h0, h1, h2, h3, h4, h5, _⟩ := ((Pit.right_iff _ _ _).1 h).all
  have := keyP_is ⟨p.1.toNat, by omega⟩ ⟨(p.2.1 + 2).toNat, by omega⟩ ⟨(p.2.2 + 1).toNat, by omega⟩
  simp only at this
  rw [show ((p.1.toNat : Nat) : Int) = p.1 by omega, show (((p.2.1 + 2).toNat : Nat) : Int) - 2 = p.2.1 by omega, show (((p.2.2 + 1).toNat : Nat) : Int) - 1 = p.2.2 by omega] at this
  exact sOf_some this
theorem kl_inj {p q : P3} (hp : Evt.rgt p = true) (hq : Evt.rgt q = true) (h : kl p = kl q) : p = q := by
  have e := keyedP.inj (key_of hp) (h ▸ key_of hq)
  simp only [pt, Value.agg.injEq, Array.mk.injEq, List.cons.injEq, Value.int.injEq, true_and, and_true] at e
  exact Prod.ext e.1 (Prod.ext e.2.1 e.2.2)
theorem kl_ne {p q : P3} (hp : Evt.rgt p = true) (hq : Evt.rgt q = true) (h : p ≠ q) : kl p ≠ kl q := fun e => h (kl_inj hp hq e)
theorem kl_key {p : P3} (h : Evt.rgt p = true) : WideAt.IsKeyLit (kl p) := keyedP.key (key_of h)
abbrev DU := DataW Unit
def tB (b : Bool) : DU := .lit (.bool b)
theorem tB_inj {a b : Bool} (h : tB a = tB b) : a = b := by unfold tB at h; cases h; rfl
/-- The map holds which pitches were met, and which of them are tied. -/
structure MapIs (D : DU) (L : List PT) : Prop where
  isMap : IsMap D
  has : ∀ p, Evt.rgt p = true → Maps.has D (kl p) = decide (p ∈ L.map Prod.fst)
  at_ : ∀ p, Evt.rgt p = true → D.atKey (kl p) (tB false) = tB (tie L p)
theorem MapIs.start : MapIs (.map []) [] := ⟨isMap_empty, fun _ _ => rfl, fun _ _ => rfl⟩
theorem MapIs.step {D : DU} {L : List PT} (h : MapIs D L) {p : P3} (hp : Evt.rgt p = true) (t : Bool) : MapIs (D.put (kl p) (tB (tie L p || t))) (L ++ [(p, t)]) := by
  refine ⟨h.isMap.put _ _, fun q hq => ?_, fun q hq => ?_⟩
  · by_cases e : q = p
    · subst e; rw [has_put_same h.isMap (kl_key hp)]; simp
    · rw [has_put_other (kl_ne hq hp e), h.has q hq]
      rw [decide_eq_decide]
      simp [e]
  · by_cases e : q = p
    · subst e
      rw [atKey_put_same h.isMap (kl_key hp), Evt.tie_append]
      congr 1
      simp [tie]
    · rw [atKey_put_other (kl_ne hq hp e), h.at_ q hq, Evt.tie_append]
      congr 1
      have : ¬ p = q := fun k => e k.symm
      simp [tie, this]
theorem bool_invG {P : Program} {e : TypeId} (he : P.underlying e = some .bool) {v : Value} {z : DU × List MemPlace} (h : plainElem P e v = some z) : ∃ x, v = .bool x ∧ z = (tB x, []) := by
  unfold plainElem at h
  rw [he] at h
  cases v <;> simp at h
  subst h
  exact ⟨_, rfl, rfl⟩
theorem bool_inv {v : Value} {z : DU × List MemPlace} (h : plainElem Tryd.prog 4 v = some z) : ∃ x, v = .bool x ∧ z = (tB x, []) := bool_invG Tryd.underlying4 h
theorem zeroBool (w : World) : (zeroValue 4).run Tryd.prog w = .ok (.bool false) w := by kernel_rfl
theorem storeBool (x : Bool) : plainElem (H := Unit) Tryd.prog 4 (.bool x) = some (tB x, []) := plainElem_bool Tryd.underlying4 x
abbrev OwnsM (w : World) (b n : Nat) (D : DU) : Prop := w.ownsMap Tryd.prog 57 (plainElem Tryd.prog 4) b n D
theorem ownsM_later {w w' : World} {b n : Nat} {D : DU} (h : OwnsM w b n D) (hb : Below w.heap.size w w') : OwnsM w' b n D :=
  h.kept (row := none) ⟨hb.os, hb.tape, hb.output, hb.size, fun k hk _ => hb.block k hk⟩ (by simp)
theorem wpList_look_ok (w : World) {ops : Array Oper} {rest : List Oper} {o : Oper} {a : Act} {Q : Exit → Act → World → Prop} (hg : o.guard = none) (m x : Operand) (t : TypeId) (hop : o.op = Op.lookup t m x true)
    (ht : Tryd.prog.underlying t = some (.map 57 4)) (b n : Nat) (D : DU) (hm : a.eval m = .map (some b)) (hown : OwnsM w b n D) (p : P3) (hp : Evt.rgt p = true) (hx : a.eval x = pt p.1 p.2.1 p.2.2)
    (c hb : Bool) (hat : D.atKey (kl p) (tB false) = tB c) (hhas : Maps.has D (kl p) = hb) (hK : wpList Tryd.prog ops Q rest (a.put o.dst (.tuple #[.bool c, .bool hb])) w) : wpList Tryd.prog ops Q (o :: rest) a w :=
  wpList_lookup_own_ok w hg m x t hop _ _ keyedP ht (plainElem Tryd.prog 4) (zeroBool _) (tB false) [] (storeBool false) b n D hm hown _ (kl p) hx (key_of hp) (fun v ps hv => by
    obtain ⟨y, rfl, hz⟩ := bool_inv hv
    rw [Prod.mk.injEq, hat] at hz
    rw [← tB_inj hz.1, hhas]
    exact hK)
theorem wpList_look (w : World) {ops : Array Oper} {rest : List Oper} {o : Oper} {a : Act} {Q : Exit → Act → World → Prop} (hg : o.guard = none) (m x : Operand) (t : TypeId) (hop : o.op = Op.lookup t m x false)
    (ht : Tryd.prog.underlying t = some (.map 57 4)) (b n : Nat) (D : DU) (hm : a.eval m = .map (some b)) (hown : OwnsM w b n D) (p : P3) (hp : Evt.rgt p = true) (hx : a.eval x = pt p.1 p.2.1 p.2.2)
    (c : Bool) (hat : D.atKey (kl p) (tB false) = tB c) (hK : wpList Tryd.prog ops Q rest (a.put o.dst (.bool c)) w) : wpList Tryd.prog ops Q (o :: rest) a w := by
  refine wpList_plain hg fun K' hK' => ?_
  obtain ⟨v, ps, hrun, hv⟩ := hown.lookup keyedP ht (zeroBool _) (storeBool false) (key_of hp)
  obtain ⟨y, rfl, hz⟩ := bool_inv hv
  rw [Prod.mk.injEq, hat] at hz
  have := tB_inj hz.1
  subst this
  unfold Oper.wp
  simp [execOp, hop, hm, hx, hrun, Result.andThen]
  exact hK' _ _ hK

/-! ### pitches met once -/
structure Firsts (F : List P3) (L : List PT) : Prop where
  nodup : F.Nodup
  mem : ∀ q, q ∈ F ↔ q ∈ L.map Prod.fst
theorem Firsts.start : Firsts [] [] := ⟨List.nodup_nil, fun q => by simp⟩
theorem Firsts.old {F : List P3} {L : List PT} (h : Firsts F L) {p : P3} {t : Bool} (hp : p ∈ L.map Prod.fst) : Firsts F (L ++ [(p, t)]) := ⟨h.nodup, fun q => by
  rw [h.mem q, List.map_append, List.mem_append]
  constructor
  · exact Or.inl
  · rintro (k | k)
    · exact k
    · simp at k; subst k; exact hp⟩
theorem Firsts.new {F : List P3} {L : List PT} (h : Firsts F L) {p : P3} {t : Bool} (hp : p ∉ L.map Prod.fst) : Firsts (F ++ [p]) (L ++ [(p, t)]) := ⟨by
  rw [List.nodup_append]
  refine ⟨h.nodup, by simp, fun a ha b hb => ?_⟩
  simp at hb; subst hb
  intro e; subst e
  exact hp ((h.mem _).1 ha), fun q => by
  rw [List.map_append, List.mem_append, List.mem_append, h.mem q]; simp⟩
theorem asc_of {F S : List P3} (hn : F.Nodup) (hr : ∀ q ∈ F, Evt.rgt q = true) (hp : S.Perm F) (hs : S.Pairwise fun p q => Evt.ky p ≤ Evt.ky q) : Evt.Asc S := by
  have hd : S.Pairwise (· ≠ ·) := hp.symm.nodup hn
  have := hs.and hd
  refine List.Pairwise.imp_of_mem ?_ this
  rintro a b ha hb ⟨h1, h2⟩
  have ra := hr a (hp.mem_iff.1 ha)
  have rb := hr b (hp.mem_iff.1 hb)
  have : Evt.ky a ≠ Evt.ky b := fun e => h2 (Evt.ky_inj ra rb e)
  omega
/-- The pitches of a list of events, with their ties. -/
def flE (ys : List EM) : List PT := Evt.fl (ys.map Prod.fst)
theorem flE_take {ys : List EM} {k : Nat} {y : EM} (h : ys[k]? = some y) : flE (ys.take (k + 1)) = flE (ys.take k) ++ Evt.pts y.1 := by
  unfold flE Evt.fl
  rw [take_succ_at h, List.map_append, List.flatMap_append]
  simp
theorem flE_rgt {ys : List EM} (h : ∀ y ∈ ys, Evt.IsR y.1) : Evt.RgtT (flE ys) := Evt.fl_rgt fun x hx => by
  obtain ⟨y, hy, rfl⟩ := List.mem_map.1 hx
  exact h y hy
theorem pts_take {x : Ev} {j : Nat} {p : P3} {t : Bool} (hp : x.ps[j]? = some p) (ht : x.ts[j]? = some t) : (Evt.pts x).take (j + 1) = (Evt.pts x).take j ++ [(p, t)] :=
  take_succ_at (by unfold Evt.pts; exact List.getElem?_zip_eq_some.2 ⟨hp, ht⟩)
theorem pts_all {x : Ev} (h : Evt.IsR x) : (Evt.pts x).take x.ps.length = Evt.pts x := List.take_of_length_le (by
  unfold Evt.pts
  rw [List.length_zip, h.len]
  omega)
end Go.Proofs.YtnfnonlbokddfaaDoor
