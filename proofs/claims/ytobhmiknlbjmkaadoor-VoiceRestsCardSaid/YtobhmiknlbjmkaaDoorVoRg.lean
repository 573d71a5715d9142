/-
  Layer 7: a range over an iterator that keeps a place of its own in memory, and stores into it between two rounds.
-/
import Derived.RangeFuncCalls
import Derived.RangeFuncLeaves
import Derived.RangeFuncBox
import Derived.RangeFuncIn
import Derived.RangeFuncNested
namespace Go.Proofs.YtobhmiknlbjmkaaDoor
open Go.RowKit

namespace Voi
/-- But for new blocks and for those of S the world B is the world A. -/
structure Turns (S : Nat → Prop) (A B : World) : Prop where
  os : B.os = A.os
  tape : B.tape = A.tape
  output : B.output = A.output
  size : A.heap.size ≤ B.heap.size
  block : ∀ k, k < A.heap.size → ¬ S k → B.heap[k]? = A.heap[k]?
theorem Turns.refl (S : Nat → Prop) (A : World) : Turns S A A := ⟨rfl, rfl, rfl, Nat.le_refl _, fun _ _ _ => rfl⟩
theorem Turns.trans {S : Nat → Prop} {A B C : World} (h : Turns S A B) (k : Turns S B C) : Turns S A C :=
  ⟨k.os.trans h.os, k.tape.trans h.tape, k.output.trans h.output, Nat.le_trans h.size k.size, fun i hi hs => (k.block i (Nat.lt_of_lt_of_le hi h.size) hs).trans (h.block i hi hs)⟩
theorem Turns.wide {S S' : Nat → Prop} {A B : World} (h : Turns S A B) (hS : ∀ k, S k → S' k) : Turns S' A B :=
  ⟨h.os, h.tape, h.output, h.size, fun k hk hs => h.block k hk (fun e => hs (hS k e))⟩
theorem Turns.of_below {S : Nat → Prop} {A B : World} (h : Below A.heap.size A B) : Turns S A B := ⟨h.os, h.tape, h.output, h.size, fun k hk _ => h.block k hk⟩
theorem Turns.put {S : Nat → Prop} (A : World) {l : Nat} (o : Obj) (h : S l) : Turns S A (A.putObj l o) :=
  ⟨rfl, rfl, rfl, by simp, fun _ _ hs => World.putObj_heap_other (fun e => hs (by rw [e]; exact h))⟩
theorem Turns.set {S : Nat → Prop} (A : World) {a : Addr} (v : Value) (h : S a.block) : Turns S A (A.setCell a v) :=
  ⟨rfl, rfl, rfl, by simp [World.setCell], fun k _ hs => Below.heap_setCell A a v k (fun e => hs (by rw [e]; exact h))⟩
theorem Turns.below {S : Nat → Prop} {A B : World} {n : Nat} (h : Turns S A B) (hS : ∀ k, S k → n ≤ k) (hn : n ≤ A.heap.size) : Below n A B :=
  ⟨h.os, h.tape, h.output, h.size, fun k hk => h.block k (by omega) (fun e => by have := hS k e; omega)⟩
theorem Turns.at {S : Nat → Prop} {A B : World} (h : Turns S A B) {k : Nat} {o : Obj} (ho : A.heap[k]? = some o) (hs : ¬ S k) : B.heap[k]? = some o :=
  (h.block k (Array.getElem?_eq_some_iff.1 ho).1 hs).trans ho
theorem Turns.cell {S : Nat → Prop} {A B : World} (h : Turns S A B) {a : Addr} {v : Value} (hc : A.cell? a = some v) (hs : ¬ S a.block) : B.cell? a = some v :=
  (World.cell?_of_block (w := A) (h.block a.block (World.block_lt_of_cell? _ _ hc) hs)).trans hc
theorem Turns.frozen {S : Nat → Prop} {A B : World} (h : Turns S A B) {a : Addr} {v : Value} (hc : A.cell? a = some v) (hf : A.frozen? a = false) (hs : ¬ S a.block) : B.frozen? a = false :=
  (World.frozen?_of_block (w := A) (h.block a.block (World.block_lt_of_cell? _ _ hc) hs)).trans hf
/-- The blocks of K lie as they lay. -/
structure Lays (K : Nat → Prop) (A B : World) : Prop where
  os : B.os = A.os
  tape : B.tape = A.tape
  output : B.output = A.output
  size : A.heap.size ≤ B.heap.size
  same : ∀ k, k < A.heap.size → K k → B.heap[k]? = A.heap[k]?
theorem Lays.refl (K : Nat → Prop) (A : World) : Lays K A A := ⟨rfl, rfl, rfl, Nat.le_refl _, fun _ _ _ => rfl⟩
theorem Lays.trans {K : Nat → Prop} {A B C : World} (h : Lays K A B) (k : Lays K B C) : Lays K A C :=
  ⟨k.os.trans h.os, k.tape.trans h.tape, k.output.trans h.output, Nat.le_trans h.size k.size, fun i hi hK => (k.same i (Nat.lt_of_lt_of_le hi h.size) hK).trans (h.same i hi hK)⟩
theorem Lays.less {K K' : Nat → Prop} {A B : World} (h : Lays K A B) (hK : ∀ k, K' k → K k) : Lays K' A B := ⟨h.os, h.tape, h.output, h.size, fun k hk e => h.same k hk (hK k e)⟩
theorem Lays.of_turns {S K : Nat → Prop} {A B : World} (h : Turns S A B) (hK : ∀ k, K k → ¬ S k) : Lays K A B := ⟨h.os, h.tape, h.output, h.size, fun k hk e => h.block k hk (hK k e)⟩
theorem Lays.of_below {K : Nat → Prop} {A B : World} (h : Below A.heap.size A B) : Lays K A B := ⟨h.os, h.tape, h.output, h.size, fun k hk _ => h.block k hk⟩
theorem Lays.set {K : Nat → Prop} (A : World) {a : Addr} (v : Value) (h : ¬ K a.block) : Lays K A (A.setCell a v) :=
  ⟨rfl, rfl, rfl, by simp [World.setCell], fun k _ hs => Below.heap_setCell A a v k (fun e => h (by rw [← e]; exact hs))⟩
theorem Lays.at {K : Nat → Prop} {A B : World} (h : Lays K A B) {k : Nat} {o : Obj} (ho : A.heap[k]? = some o) (hK : K k) : B.heap[k]? = some o :=
  (h.same k (Array.getElem?_eq_some_iff.1 ho).1 hK).trans ho
theorem Lays.cell {K : Nat → Prop} {A B : World} (h : Lays K A B) {a : Addr} {v : Value} (hc : A.cell? a = some v) (hK : K a.block) : B.cell? a = some v :=
  (World.cell?_of_block (w := A) (h.same a.block (World.block_lt_of_cell? _ _ hc) hK)).trans hc
theorem Lays.frozen {K : Nat → Prop} {A B : World} (h : Lays K A B) {a : Addr} {v : Value} (hc : A.cell? a = some v) (hf : A.frozen? a = false) (hK : K a.block) : B.frozen? a = false :=
  (World.frozen?_of_block (w := A) (h.same a.block (World.block_lt_of_cell? _ _ hc) hK)).trans hf
theorem Lays.below {K : Nat → Prop} {A B : World} {n : Nat} (h : Lays K A B) (hK : ∀ k, k < n → K k) (hn : n ≤ A.heap.size) : Below n A B :=
  ⟨h.os, h.tape, h.output, h.size, fun k hk => h.same k (by omega) (hK k hk)⟩

/-- The blocks of an iterator that was called when the world's end was at b: those that it laid ahead of its first round, when the end was at M, and those laid since the last round, when it was at N. -/
def Mine (b M N j : Nat) : Prop := (b ≤ j ∧ j < M) ∨ N ≤ j

/-- THE CONTRACT OF AN ITERATOR THAT HANDS ON xs, ONE BY ONE: it leans on the blocks of K, and turns none but its own. -/
def Feeds {α : Type} (F : Fence) (n : Nat) (P : Program) (g : Nat) (lb : Array Value) (encs : α → Array Value) (xs : List α) (K : Nat → Prop) (w : World) : Prop :=
  ∀ (l : Nat) (J Jx : Nat → Nat → Nat → World → Prop) (W : World), Below w.heap.size w W →
    (∀ M N k A B, J M N k A → Turns (Mine W.heap.size M N) A B → J M N k B) →
    (∀ M N k A B, Jx M N k A → Turns (Mine W.heap.size M N) A B → Jx M N k B) →
    (∀ W', Below W.heap.size W W' → J W'.heap.size W'.heap.size 0 W') →
    (∀ M N k x W1, J M N k W1 → M ≤ N → N ≤ W1.heap.size → xs[k]? = some x → YieldAt F (n - 1) P l (encs x) W1 fun e W' =>
      (e = .returned (.bool true) ∧ J M W'.heap.size (k + 1) W' ∧ Lays (fun j => K j ∨ Mine W.heap.size M N j) W1 W') ∨ (e = .returned (.bool false) ∧ Jx M W'.heap.size (k + 1) W')) →
    CallsIn F n P g (#[.func (.yield l) #[] #[]] ++ lb) W fun e W' => (∃ v, e = .returned v) ∧ ((∃ M N, J M N xs.length W') ∨ (∃ M N k, Jx M N k W'))

/-- How the body of a round may be left. -/
def feedPost (L : World → World → Prop) (I Ix : World → Prop) (W : World) : Exit → Act → World → Prop
  | .normal, _, W' => L W W' ∧ I W'
  | .ret, _, W' => L W W' ∧ Ix W'
  | _, _, _ => False

variable {F : Fence} {n : Nat} {P : Program}

/-- A RANGE OVER SUCH AN ITERATOR. -/
theorem wpIn_rangeFunc_feeds {α : Type} {g : Operand} {ps : Array Tmp} {assign body : Code} {Q : Exit → Act → World → Prop} {a : Act} {w : World}
    (hro : F.round = none) (h1 : 1 ≤ n) {gf : Nat} {lb : Array Value} (hg : a.eval g = .func (.func gf) #[] lb) (hFg : F.fn gf) (eg : ∀ args w, (callFunc gf args).run P w = .ok (.enter gf args) w)
    {encs : α → Array Value} {xs : List α} {K : Nat → Prop} {w0 : World} (hseq : Feeds F (n - 1) P gf lb encs xs K w0) (hb0 : Below w0.heap.size w0 w) (hps : ∀ x, (encs x).size = ps.size) (hK : ∀ k, K k → k < w.heap.size)
    (I Ix : Nat → Nat → Nat → World → Prop) (hI : ∀ M N k A B, I M N k A → Turns (Mine w.heap.size M N) A B → I M N k B) (hIx : ∀ M N k A B, Ix M N k A → Turns (Mine w.heap.size M N) A B → Ix M N k B)
    (h0 : ∀ W', Below w.heap.size w W' → w.heap.size + 2 ≤ W'.heap.size → I W'.heap.size W'.heap.size 0 W')
    (hround : ∀ (l M N k : Nat) (x : α) (W : World), I M N k W → xs[k]? = some x → w.heap.size + 2 ≤ M → M ≤ N → N ≤ W.heap.size →
      assign.wpIn (F.inRound l) (n - 1 - 1) P (Exit.then (fun a' W' => Lays (fun j => K j ∨ Mine w.heap.size M N j) W W' ∧ ∀ W'', Turns (fun j => w.heap.size ≤ j ∧ j < M) W' W'' → W''.heap.size = W'.heap.size →
        body.wpIn (F.inRound l) (n - 1 - 1) P (feedPost (Lays (fun j => K j ∨ Mine w.heap.size M N j)) (fun W3 => I M W3.heap.size (k + 1) W3) (fun W3 => Ix M W3.heap.size (k + 1) W3) W'') a' W'') (fun _ _ _ => False))
        { tmps := (ps.zip (encs x)).foldl (fun t (p, v) => t.setIfInBounds p v) a.tmps, defers := [] } W)
    (hdone : ∀ (D M N : Nat) (W : World), w.heap.size ≤ D ∧ D < M → I M N xs.length W → W.heap[D]? = some (.deferred (some [])) → Q .normal { a with defers := { target := .collected D, args := #[] } :: a.defers } W)
    (hstop : ∀ (D M N k : Nat) (W : World), w.heap.size ≤ D → Ix M N k W → W.heap[D]? = some (.deferred (some [])) → Code.ret.wpIn F n P Q { a with defers := { target := .collected D, args := #[] } :: a.defers } W) :
    (Code.rangeFunc g ps assign body).wpIn F n P Q a w := by
  refine wpIn_rangeFunc ?_
  intro fn hfn
  rw [hro]
  -- the two blocks that the loop lays: for deferred calls at b, the record at b + 1
  obtain ⟨b, hb⟩ : ∃ b, w.heap.size = b := ⟨_, rfl⟩
  obtain ⟨rec, hrec⟩ : ∃ rec : LoopState → Option Code → Loop, rec = fun st pe => { state := st, pending := pe, fn, tmps := a.tmps, params := ps, assign, body, defers := b } := ⟨_, rfl⟩
  obtain ⟨V, hV⟩ : ∃ V, (w.alloc (.deferred (some []))).alloc (.loop (rec .ready none)) = V := ⟨_, rfl⟩
  have hsV : V.heap.size = b + 2 := by rw [← hV]; simp [hb]
  have hrV : V.heap[b + 1]? = some (.loop (rec .ready none)) := by
    have := World.alloc_heap_new (w.alloc (.deferred (some []))) (.loop (rec .ready none))
    rw [World.size_alloc, hb, hV] at this
    exact this
  have hdV : V.heap[b]? = some (.deferred (some [])) := by
    rw [← hV, Below.heap_alloc _ _ _ (by simp [hb]), ← hb]
    exact World.alloc_heap_new w _
  have hwV : Below w.heap.size w V := by rw [← hV]; exact ((Below.refl _ w).alloc (Nat.le_refl _) _).alloc (by simp) _
  rw [hb] at hwV hK hI hIx h0 hround hdone hstop
  refine ⟨b + 1, [{ target := .collected b, args := #[] }], V, { target := .fn (.func gf) lb, args := #[.func (.yield (b + 1)) #[] #[]] }, V, gf, #[.func (.yield (b + 1)) #[] #[]] ++ lb, V, ?enter, ?resolve, ?leads, ?invoke, fun _ => h1, ?calls⟩
  case enter =>
    have := run_enterLoop_outer (P := P) (w := w) fn a.tmps ps assign body
    rw [hb] at this
    rw [← hV, hrec]
    exact this
  case resolve => simp only [resolve, hg]; simp [go_sem]
  case leads => intro f' hf'; simp [Target.leads] at hf'; subst hf'; exact hFg
  case invoke => simp [invoke, go_sem, eg]
  case calls =>
    have hin : ∀ {M N j : Nat}, Mine V.heap.size M N j → Mine b M N j := fun h => h.imp (fun h => ⟨by omega, h.2⟩) id
    have far : ∀ {M N : Nat} {A B : World} {k : Nat} {o : Obj}, Turns (Mine V.heap.size M N) A B → k < b + 2 → b + 2 ≤ N → A.heap[k]? = some o → B.heap[k]? = some o := fun ht hk hN ho => ht.at ho (fun h => by rcases h with h | h <;> omega)
    refine (hseq (b + 1)
      (fun M N k W => (b + 2 ≤ M ∧ b + 2 ≤ N) ∧ I M N k W ∧ W.heap[b + 1]? = some (.loop (rec .ready none)) ∧ W.heap[b]? = some (.deferred (some [])))
      (fun M N k W => (b + 2 ≤ M ∧ b + 2 ≤ N) ∧ Ix M N k W ∧ W.heap[b + 1]? = some (.loop (rec .done (some .ret))) ∧ W.heap[b]? = some (.deferred (some [])))
      V (hb0.trans (hwV.mono (hb ▸ hb0.size)))
      (fun M N k A B h ht => ⟨h.1, hI M N k A B h.2.1 (ht.wide fun j hj => hin hj), far ht (by omega) h.1.2 h.2.2.1, far ht (by omega) h.1.2 h.2.2.2⟩)
      (fun M N k A B h ht => ⟨h.1, hIx M N k A B h.2.1 (ht.wide fun j hj => hin hj), far ht (by omega) h.1.2 h.2.2.1, far ht (by omega) h.1.2 h.2.2.2⟩)
      (fun W' hW => ⟨⟨by have := hW.size; omega, by have := hW.size; omega⟩, h0 W' (hwV.trans (hW.mono (by omega))) (by have := hW.size; omega), (hW.block _ (by omega)).trans hrV, (hW.block _ (by omega)).trans hdV⟩)
      ?_).mono ?_
    · -- one round
      rintro M N k x W ⟨⟨hM, hN⟩, hi, hr, hd⟩ hMN hNW hx
      have hy := run_yield (P := P) (args := encs x) hr (by rw [hrec]; exact hps x)
      rw [hrec] at hy
      refine ⟨fn, _, assign, body, hy, roundIn_of_wpIn hfn (wpIn_mono (hround (b + 1) M N k x W hi hx hM hMN hNW) ?_)⟩
      clear hy
      rintro e a₁ W₁ hp
      cases e with
      | normal =>
        obtain ⟨hL1, hbody⟩ := hp
        have hr1 := hL1.at hr (.inr (.inl ⟨by omega, by omega⟩))
        have hd1 := hL1.at hd (.inr (.inl ⟨by omega, by omega⟩))
        refine ⟨_, run_beginRound hr1 (by rw [hrec]), wpIn_mono (hbody _ (Turns.put _ _ ⟨by omega, by omega⟩) (by simp)) ?_⟩
        have hr2 : (W₁.putObj (b + 1) (.loop { rec .ready none with state := .busy })).heap[b + 1]? = some (.loop { rec .ready none with state := .busy }) := World.putObj_heap_same (Array.getElem?_eq_some_iff.1 hr1).1
        have hd2 : (W₁.putObj (b + 1) (.loop { rec .ready none with state := .busy })).heap[b]? = some (.deferred (some [])) := (World.putObj_heap_other (by omega)).trans hd1
        have hs2 : W₁.heap.size = (W₁.putObj (b + 1) (.loop { rec .ready none with state := .busy })).heap.size := by simp
        have hk2 : ∀ j, j ≠ b + 1 → (W₁.putObj (b + 1) (.loop { rec .ready none with state := .busy })).heap[j]? = W₁.heap[j]? := fun j hj => World.putObj_heap_other (by omega)
        have hs3 : (W₁.putObj (b + 1) (.loop { rec .ready none with state := .busy })).os = W₁.os ∧ (W₁.putObj (b + 1) (.loop { rec .ready none with state := .busy })).tape = W₁.tape ∧ (W₁.putObj (b + 1) (.loop { rec .ready none with state := .busy })).output = W₁.output := ⟨rfl, rfl, rfl⟩
        generalize W₁.putObj (b + 1) (.loop { rec .ready none with state := .busy }) = W₂ at hr2 hd2 hs2 hk2 hs3
        -- the end of the round, however it is left
        have fin : ∀ (jump : Option Code) (W₃ : World), Lays (fun j => K j ∨ Mine b M N j) W₂ W₃ →
            (Instr.endRound (b + 1) jump).run P W₃ = .ok (.bool jump.isNone) (W₃.putObj (b + 1) (.loop (rec (if jump.isNone then .ready else .done) jump))) ∧
            (W₃.putObj (b + 1) (.loop (rec (if jump.isNone then .ready else .done) jump))).heap[b + 1]? = some (.loop (rec (if jump.isNone then .ready else .done) jump)) ∧
            (W₃.putObj (b + 1) (.loop (rec (if jump.isNone then .ready else .done) jump))).heap[b]? = some (.deferred (some [])) ∧
            (∀ N, Turns (Mine b M N) W₃ (W₃.putObj (b + 1) (.loop (rec (if jump.isNone then .ready else .done) jump)))) ∧
            Lays (fun j => K j ∨ Mine V.heap.size M N j) W (W₃.putObj (b + 1) (.loop (rec (if jump.isNone then .ready else .done) jump))) ∧
            W₃.heap.size = (W₃.putObj (b + 1) (.loop (rec (if jump.isNone then .ready else .done) jump))).heap.size ∧ b + 2 ≤ W₃.heap.size := fun jump W₃ hL => by
          have hr3 := hL.at hr2 (.inr (.inl ⟨by omega, by omega⟩))
          have hd3 := hL.at hd2 (.inr (.inl ⟨by omega, by omega⟩))
          have he := run_endRound (P := P) jump hr3
          rw [hrec] at he ⊢
          have z1 := hL1.size
          have z2 := hL.size
          refine ⟨he, World.putObj_heap_same (Array.getElem?_eq_some_iff.1 hr3).1, (World.putObj_heap_other (by omega)).trans hd3, fun N => Turns.put _ _ (.inl ⟨by omega, by omega⟩), ⟨hL.os.trans (hs3.1.trans hL1.os), hL.tape.trans (hs3.2.1.trans hL1.tape), hL.output.trans (hs3.2.2.trans hL1.output), by simp; omega, fun j hj hKj => ?_⟩, by simp, by omega⟩
          have hne : j ≠ b + 1 := by
            rcases hKj with h | h | h
            · have := hK j h; omega
            · omega
            · omega
          have hw : K j ∨ Mine b M N j := hKj.imp id hin
          rw [World.putObj_heap_other hne, hL.same j (by omega) hw, hk2 j hne, hL1.same j hj hw]
        rintro e a₃ W₃ hp
        cases e with
        | normal =>
          obtain ⟨e1, e2, e3, e4, e5, e6, e7⟩ := fin none W₃ hp.1
          exact ⟨_, _, e1, .inl ⟨rfl, ⟨⟨hM, by omega⟩, hI _ _ _ _ _ (e6 ▸ hp.2) (e4 _), e2, e3⟩, e5⟩⟩
        | ret =>
          obtain ⟨e1, e2, e3, e4, e5, e6, e7⟩ := fin (some .ret) W₃ hp.1
          exact ⟨_, _, e1, .inr ⟨rfl, ⟨hM, by omega⟩, hIx _ _ _ _ _ (e6 ▸ hp.2) (e4 _), e2, e3⟩⟩
        | exit id => exact hp.elim
        | goto t => exact hp.elim
        | panic ch => exact hp.elim
        | outgrown => exact hp.elim
      | ret => exact hp.elim
      | exit id => exact hp.elim
      | goto t => exact hp.elim
      | panic ch => exact hp.elim
      | outgrown => exact hp.elim
    · -- behind the iterator
      rintro e W2 ⟨⟨v, rfl⟩, (⟨M, N, ⟨hM, hN⟩, hi, hr, hd⟩ | ⟨M, N, k, ⟨hM, hN⟩, hi, hr, hd⟩)⟩
      · have he := run_endLoop (P := P) hr (by rw [hrec]; simp)
        rw [hrec] at he
        exact ⟨none, _, he, hdone b M N _ ⟨Nat.le_refl _, by omega⟩ (hI _ _ _ _ _ hi (Turns.put _ _ (.inl ⟨by omega, by omega⟩))) ((World.putObj_heap_other (by omega)).trans hd)⟩
      · have he := run_endLoop (P := P) hr (by rw [hrec]; simp)
        rw [hrec] at he
        exact ⟨some .ret, _, he, hstop b M N k _ (Nat.le_refl _) (hIx _ _ _ _ _ hi (Turns.put _ _ (.inl ⟨by omega, by omega⟩))) ((World.putObj_heap_other (by omega)).trans hd)⟩
end Voi
end Go.Proofs.YtobhmiknlbjmkaaDoor
