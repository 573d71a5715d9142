/-
  The contract of voice's record.add: an event behind those so far.
-/
import Derived.Test.YtobhmiknlbjmkaaDoorVoW
import Derived.Deep.RegionLaw
import Derived.Deep.AppendLies
import Derived.Deep.CutBlock
import Derived.Deep.DeepCutAuto
import Derived.OwnWalk
namespace Go.Proofs.YtobhmiknlbjmkaaDoor
open Go.RowKit Go.Maps
open Evt (P3 Ev PT)
open Voi (R2 Sp Turns Run)

theorem pts_take {x : Ev} {j : Nat} {p : P3} {t : Bool} (hp : x.ps[j]? = some p) (ht : x.ts[j]? = some t) : (Evt.pts x).take (j + 1) = (Evt.pts x).take j ++ [(p, t)] :=
  take_succ_at (by unfold Evt.pts; exact List.getElem?_zip_eq_some.2 ⟨hp, ht⟩)
theorem pts_all {x : Ev} (h : Evt.IsR x) : (Evt.pts x).take x.ps.length = Evt.pts x := List.take_of_length_le (by
  unfold Evt.pts
  rw [List.length_zip, h.len]
  omega)
theorem infoRu : (Tryd.prog.info? 114).map (fun i => (i.zero, i.size, i.bytes)) = some (some (.agg #[.int .i64 0, .int .i64 0, .int .i64 0, .int .i64 0, .int .i64 0, .int .i64 0, .int .i64 0, .slice none 0 0, .int .i64 0, .int .i64 0]), 10, 96) := by kernel_rfl
theorem cells10_new (w : World) (t : TypeId) (z : RuM) {n : Nat} (hn : w.heap.size = n) : ∀ (jj : Nat) (u : Value), (encRu z)[jj]? = some u → (w.alloc (.cells (encRu z).toArray t)).cell? (Addr.add ⟨n, 0, none⟩ jj) = some u := by
  subst hn
  intro jj u hu
  rcases jj with _ | _ | _ | _ | _ | _ | _ | _ | _ | _ | jj
  all_goals (simp [encRu] at hu)
  all_goals (subst hu; simp [Addr.add, encRu])
theorem oneRu (z : RuM) (p : Option Addr) (n c : Nat) (hz : z.2 = .slice p n c) : ∀ u ∈ encRu z, u.oneCell' = true := by
  intro u hu
  simp only [encRu, hz, List.mem_cons, List.not_mem_nil, or_false] at hu
  rcases hu with rfl | rfl | rfl | rfl | rfl | rfl | rfl | rfl | rfl | rfl <;> rfl
/-- What lies within a pitch of add, called in w. -/
structure AddJ (w : World) (R M : Nat) (rv0 mv : Value) (td : List (P3 × Nat)) (sv : Array Value) (k : Nat) (rv : Value) (l : List RuM) (td' : List (P3 × Nat)) (wr : World) : Prop where
  sb : wr.heap[w.heap.size]? = some (.cells sv 86 (0, 0))
  rc : RecI wr R M wr.heap.size rv mv l td
  mp : ∃ n D, n ≤ k ∧ OwnsN wr (w.heap.size + 1) n D ∧ MapN D td'
  tu : Turns (fun j => j = R ∨ rv0.ownBlock = some j) w wr
  ro : rv.ownBlock = rv0.ownBlock ∨ ∀ g, rv.ownBlock = some g → w.heap.size + 2 ≤ g
  sz : w.heap.size + 2 ≤ wr.heap.size
  mn : ∀ x ∈ l, ∀ j, x.2.ownBlock = some j → j ≠ w.heap.size + 1
/-- What lies between two pitches of add, called in w. -/
structure AddI (w : World) (R M : Nat) (rv0 mv : Value) (l0 : List RuM) (td : List (P3 × Nat)) (x : Sp) (sv : Array Value) (k : Nat) (rv : Value) (l : List RuM) (td' : List (P3 × Nat)) (wr : World) : Prop where
  j : AddJ w R M rv0 mv td sv k rv l td' wr
  eq : (l.map Prod.fst, td') = ((Evt.pts x.y.1).take k).foldl (Voi.addP x td) (l0.map Prod.fst, [])
  ln : l0.length ≤ l.length ∧ l.length ≤ l0.length + k
theorem AddJ.later {w : World} {R M : Nat} {rv0 mv : Value} {td : List (P3 × Nat)} {sv : Array Value} {k : Nat} {rv : Value} {l : List RuM} {td' : List (P3 × Nat)} {wr W : World} (h : AddJ w R M rv0 mv td sv k rv l td' wr) (hb : Below wr.heap.size wr W) : AddJ w R M rv0 mv td sv k rv l td' W := by
  have hs := h.sz
  obtain ⟨n, D, h1, h2, h3⟩ := h.mp
  exact ⟨(hb.block _ (by omega)).trans h.sb, (h.rc.later hb (Nat.le_refl _)).mono hb.size, ⟨n, D, h1, ownsN_block h2 (hb.block _ (by omega)), h3⟩, h.tu.trans (Turns.of_below hb), h.ro, Nat.le_trans hs hb.size, h.mn⟩
theorem AddJ.below {w0 w : World} {R M : Nat} {rv0 mv : Value} {td : List (P3 × Nat)} {sv : Array Value} {k : Nat} {rv : Value} {l : List RuM} {td' : List (P3 × Nat)} {wr : World} (h : AddJ w R M rv0 mv td sv k rv l td' wr) (hb : Below w0.heap.size w0 w) (hR : w0.heap.size ≤ R) (hM : w0.heap.size ≤ M) (hr : ∀ g, rv0.ownBlock = some g → M ≤ g) : Below w0.heap.size w0 wr :=
  hb.trans (h.tu.below (fun k e => by
    rcases e with rfl | e
    · exact hR
    · have := hr k e; omega) hb.size)
/-- A run's end turned. -/
theorem AddJ.put {w : World} {R M : Nat} {rv0 mv : Value} {td : List (P3 × Nat)} {sv : Array Value} {k g cap n q : Nat} {l : List RuM} {td' : List (P3 × Nat)} {W : World} {x y : Int} (h : AddJ w R M rv0 mv td sv k (.slice (some ⟨g, 0, none⟩) n cap) l td' W) (hn : n = l.length) (hq : q < l.length) (hR : R < M) (hrow : ∀ g, rv0.ownBlock = some g → M ≤ g ∧ g < w.heap.size) :
    AddJ w R M rv0 mv td sv k (.slice (some ⟨g, 0, none⟩) n cap) (Voi.upd (toM x y) q l) td' ((W.setCell ⟨g, q * 10 + 8, none⟩ (.int .i64 x)).setCell ⟨g, q * 10 + 9, none⟩ (.int .i64 y)) := by
  have far : ∀ k, k ≠ g → ((W.setCell ⟨g, q * 10 + 8, none⟩ (.int .i64 x)).setCell ⟨g, q * 10 + 9, none⟩ (.int .i64 y)).heap[k]? = W.heap[k]? := fun k hk => (Below.heap_setCell _ _ _ _ hk).trans (Below.heap_setCell _ _ _ _ hk)
  have hg : rv0.ownBlock = some g ∨ w.heap.size + 2 ≤ g := h.ro.imp (fun e => by rw [← e]; rfl) (fun e => e g rfl)
  have n1 : w.heap.size ≠ g := by
    rcases hg with e | e
    · have := hrow g e; omega
    · omega
  have n2 : w.heap.size + 1 ≠ g := by
    rcases hg with e | e
    · have := hrow g e; omega
    · omega
  have hsz : ((W.setCell ⟨g, q * 10 + 8, none⟩ (.int .i64 x)).setCell ⟨g, q * 10 + 9, none⟩ (.int .i64 y)).heap.size = W.heap.size := by simp
  obtain ⟨m, D, h1, h2, h3⟩ := h.mp
  refine ⟨(far _ n1).trans h.sb, by rw [hsz]; exact h.rc.put hn hq hR, ⟨m, D, h1, ownsN_block h2 (far _ n2), h3⟩, ⟨h.tu.os, h.tu.tape, h.tu.output, by rw [hsz]; exact h.tu.size, fun j hj hs => (far j (fun e => ?_)).trans (h.tu.block j hj hs)⟩, h.ro, by rw [hsz]; exact h.sz, fun z hz => ?_⟩
  · rcases hg with e' | e'
    · exact hs (.inr (e ▸ e'))
    · omega
  · obtain ⟨z0, hz0, e⟩ := Voi.upd_mem _ _ _ _ hz
    have e1 : z.2 = z0.2 := by rcases e with rfl | rfl <;> rfl
    rw [e1]
    exact h.mn z0 hz0
/-- A run more. -/
theorem AddJ.push {w V u w5 : World} {R M : Nat} {rv0 mv rv m' : Value} {td : List (P3 × Nat)} {sv : Array Value} {k g cap n : Nat} {l : List RuM} {td' : List (P3 × Nat)} {r : Run} {o : Obj} (h : AddJ w R M rv0 mv td sv k rv l td' V) (hb : Below V.heap.size V u) (hI : Ints u m' r.m) (hO : Own V.heap.size m') (hi : Inn u m')
    (hn : n = l.length + 1) (hown : w5.ownsRow M 114 10 (.slice (some ⟨g, 0, none⟩) n cap) n (l.flatMap encRu ++ encRu (r, m'))) (hg : (u.alloc o).grownBy w5 rv.ownBlock) (hat : rv.ownBlock = some g ∨ g = (u.alloc o).heap.size) (hR : R < M) (hM : M ≤ w.heap.size) (hrow : ∀ g, rv0.ownBlock = some g → M ≤ g ∧ g < w.heap.size) :
    AddJ w R M rv0 mv td sv k (.slice (some ⟨g, 0, none⟩) n cap) (l ++ [(r, m')]) td' (w5.setCell ⟨R, 0, none⟩ (.slice (some ⟨g, 0, none⟩) n cap)) := by
  have hs := h.sz
  have zu := hb.size
  have z5 := hg.size
  simp only [World.size_alloc] at z5
  have rvw : ∀ j, rv.ownBlock = some j → rv0.ownBlock = some j ∨ w.heap.size + 2 ≤ j := fun j hj => h.ro.imp (fun e => by rw [← e]; exact hj) (fun e => e j hj)
  have keep : ∀ j, j < V.heap.size → rv.ownBlock ≠ some j → j ≠ R → (w5.setCell ⟨R, 0, none⟩ (.slice (some ⟨g, 0, none⟩) n cap)).heap[j]? = V.heap[j]? := fun j hj hne hjR =>
    (Below.heap_setCell _ _ _ _ hjR).trans ((hg.block j (by simp; omega) (fun e => hne e.symm)).trans ((Below.heap_alloc _ _ _ (by omega)).trans (hb.block j hj)))
  have hsz : (w5.setCell ⟨R, 0, none⟩ (.slice (some ⟨g, 0, none⟩) n cap)).heap.size = w5.heap.size := by simp
  have nb : ∀ j, j = w.heap.size ∨ j = w.heap.size + 1 → rv.ownBlock ≠ some j := fun j hj e => by
    rcases rvw j e with e' | e'
    · have := hrow j e'; omega
    · omega
  obtain ⟨m, D, h1, h2, h3⟩ := h.mp
  refine ⟨(keep _ (by omega) (nb _ (.inl rfl)) (by omega)).trans h.sb, by rw [hsz]; exact h.rc.push hb hI hO hi hn hown hg hat hR (by omega), ⟨m, D, h1, ownsN_block h2 (keep _ (by omega) (nb _ (.inr rfl)) (by omega)), h3⟩,
    ⟨?_, ?_, ?_, by rw [hsz]; have := h.tu.size; omega, fun j hj hs => (keep j (by have := h.tu.size; omega) (fun e => ?_) (fun e => hs (.inl e))).trans (h.tu.block j hj hs)⟩, ?_, by rw [hsz]; omega, fun z hz => ?_⟩
  · exact hg.os.trans (hb.os.trans h.tu.os)
  · exact hg.tape.trans (hb.tape.trans h.tu.tape)
  · exact hg.output.trans (hb.output.trans h.tu.output)
  · rcases rvw j e with e' | e'
    · exact hs (.inr e')
    · omega
  · rcases hat with e | e
    · rcases h.ro with e' | e'
      · exact .inl (by rw [← e', e]; rfl)
      · exact .inr (fun j hj => by
          have e3 : g = j := by simpa [Value.ownBlock] using hj
          exact e' j (e3 ▸ e))
    · exact .inr (fun j hj => by
        have e3 : g = j := by simpa [Value.ownBlock] using hj
        simp at e
        omega)
  · rcases List.mem_append.1 hz with hz | hz
    · exact h.mn z hz
    · simp at hz
      subst hz
      exact fun j hj => by have := hO j hj; omega
/-- A pitch more in the map. -/
theorem AddJ.map {w W w7 : World} {R M : Nat} {rv0 mv rv : Value} {td : List (P3 × Nat)} {sv : Array Value} {k n : Nat} {l : List RuM} {td' td2 : List (P3 × Nat)} {D : DU} (h : AddJ w R M rv0 mv td sv k rv l td' W) (hg : W.grownBy w7 (some (w.heap.size + 1))) (hown : OwnsN w7 (w.heap.size + 1) n D) (hn : n ≤ k + 1) (hm : MapN D td2) (hR : R < w.heap.size)
    (htd : ∀ b, mv = .map (some b) → b < w.heap.size) : AddJ w R M rv0 mv td sv (k + 1) rv l td2 w7 := by
  have hs := h.sz
  have z7 := hg.size
  have keep : ∀ j, j < W.heap.size → j ≠ w.heap.size + 1 → w7.heap[j]? = W.heap[j]? := fun j hj hne => hg.block j hj (fun e => hne (Option.some.inj e))
  obtain ⟨es, c, hes⟩ : ∃ es c, W.heap[w.heap.size + 1]? = some (.map es c) := by obtain ⟨m, D', _, h2, _⟩ := h.mp; exact ownsN_map h2
  have rne : ∀ j, rv.ownBlock = some j → j ≠ w.heap.size + 1 := fun j hj e => map_ne_row h.rc.row hes (e ▸ hj)
  refine ⟨(keep _ (by omega) (by omega)).trans h.sb, ?_, ⟨n, D, hn, hown, hm⟩, ⟨hg.os.trans h.tu.os, hg.tape.trans h.tu.tape, hg.output.trans h.tu.output, Nat.le_trans h.tu.size z7, fun j hj hne => (keep j (by have := h.tu.size; omega) (by omega)).trans (h.tu.block j hj hne)⟩, h.ro, by omega, h.mn⟩
  refine ⟨(keep _ (by omega) (by omega)).trans h.rc.bx, own_block h.rc.row (fun j hj => keep j (h.rc.row.lt j hj).2 (rne j hj)), fun j hj => Nat.lt_of_lt_of_le (h.rc.rN j hj) z7, fun x hx => ⟨(h.rc.mks x hx).1.block (fun j hj => keep j ((h.rc.mks x hx).2 j hj).2.1 (h.mn x hx j hj)), fun j hj => ?_⟩, ?_⟩
  · have := (h.rc.mks x hx).2 j hj
    exact ⟨this.1, by omega, this.2.2⟩
  · rcases h.rc.td with e | ⟨b, n', D', e, h1, h2, hown', hm'⟩
    · exact .inl e
    · exact .inr ⟨b, n', D', e, h1, by omega, ownsN_block hown' (keep b h2 (by have := htd b e; omega)), hm'⟩
theorem AddJ.more {w : World} {R M : Nat} {rv0 mv : Value} {td : List (P3 × Nat)} {sv : Array Value} {k : Nat} {rv : Value} {l : List RuM} {td' : List (P3 × Nat)} {W : World} (h : AddJ w R M rv0 mv td sv k rv l td' W) : AddJ w R M rv0 mv td sv (k + 1) rv l td' W := by
  obtain ⟨n, D, h1, h2⟩ := h.mp
  exact ⟨h.sb, h.rc, ⟨n, D, by omega, h2⟩, h.tu, h.ro, h.sz, h.mn⟩
theorem push_keep {V u w5 : World} {R j : Nat} {rv v : Value} {o : Obj} (hb : Below V.heap.size V u) (hg : (u.alloc o).grownBy w5 rv.ownBlock) (hj : j < V.heap.size) (hne : rv.ownBlock ≠ some j) (hR : j ≠ R) : (w5.setCell ⟨R, 0, none⟩ v).heap[j]? = V.heap[j]? :=
  (Below.heap_setCell _ _ _ _ hR).trans ((hg.block j (by have := hb.size; simp; omega) (fun e => hne e.symm)).trans ((Below.heap_alloc _ _ _ (by have := hb.size; omega)).trans (hb.block j hj)))
theorem undrew {V u : World} (h : Below V.drew.heap.size V.drew u) : Below V.heap.size V u := ⟨h.os, h.tape, h.output, h.size, h.block⟩
theorem row_ne_box {W : World} {base k n B : Nat} {e t : TypeId} {v : Value} {xs : List Value} {cs : Array Value} {f : Nat × Nat} (h : W.ownsRow base e k v n xs) (hb : W.heap[B]? = some (.cells cs t f)) (ht : t ≠ e) : v.ownBlock ≠ some B := fun ev => by
  rcases h.2 with ⟨rfl, _⟩ | ⟨g, cap, cur, rfl, _, hg, _⟩
  · cases ev
  · have : g = B := by simpa [Value.ownBlock] using ev
    subst this
    rw [hb] at hg
    cases hg
    exact ht rfl
theorem wf_small {q : Nat} (h : q ≤ 200000) : (Lit.int .i64 (q : Int)).wf = true := by
  have h1 : IntKind.i64.min ≤ (q : Int) := by
    have : IntKind.i64.min = -9223372036854775808 := by decide
    omega
  have h2 : (q : Int) ≤ IntKind.i64.max := by
    have : IntKind.i64.max = 9223372036854775807 := by decide
    omega
  show (decide (IntKind.i64.min ≤ (q : Int)) && decide ((q : Int) ≤ IntKind.i64.max)) = true
  rw [decide_eq_true h1, decide_eq_true h2]
  rfl
theorem run_cell {W : World} {M g cap n q : Nat} {l : List RuM} (h : W.ownsRow M 114 10 (.slice (some ⟨g, 0, none⟩) n cap) n (l.flatMap encRu)) (hq : q < l.length) : (∃ z, W.cell? ⟨g, q * 10 + 8, none⟩ = some (.int .i64 z)) ∧ (∃ z, W.cell? ⟨g, q * 10 + 9, none⟩ = some (.int .i64 z)) ∧ ∀ j, W.frozen? ⟨g, j, none⟩ = false := by
  obtain ⟨x, hx⟩ : ∃ x, l[q]? = some x := ⟨_, List.getElem?_eq_getElem hq⟩
  have a := fun (j : Nat) (u : Value) (hj : j < 10) (hu : (encRu x)[j]? = some u) => h.cells (g := g) rfl (q * 10 + j) u ((flat_at lenRu l q x j hx hj).trans hu)
  have a8 := a 8 _ (by omega) rfl
  have a9 := a 9 _ (by omega) rfl
  rw [Addr.add_lit, Nat.zero_add] at a8 a9
  exact ⟨⟨_, a8⟩, ⟨_, a9⟩, fun j => h.frozenAt j⟩
theorem keep_R {V u w5 : World} {R M k : Nat} {rv mv : Value} {xs : List Value} {o : Obj} (hr : V.ownsRow M 114 10 rv k xs) (hbx : V.heap[R]? = some (.cells #[rv, mv] 81 (0, 0))) (hb : Below V.drew.heap.size V.drew u) (hg : (u.alloc o).grownBy w5 rv.ownBlock) (hR : R < M) : w5.heap[R]? = some (.cells #[rv, mv] 81 (0, 0)) := by
  have zR : R < V.heap.size := lt_of_block hbx
  have zu : V.heap.size ≤ u.heap.size := hb.size
  refine (hg.block R (by simp; omega) (fun e => by have := (hr.lt R e.symm).1; omega)).trans ((Below.heap_alloc _ _ _ (by omega)).trans ((hb.block R zR).trans hbx))
theorem upd_last {f : RuM → RuM} (l : List RuM) (r : RuM) : Voi.upd f l.length (l ++ [r]) = l ++ [f r] := by
  induction l with
  | nil => rfl
  | cons x l ih => simp only [List.length_cons, List.cons_append, Voi.upd, ih]
theorem addP_none {x : Sp} {td : List (P3 × Nat)} {p : P3} {t : Bool} (h : Voi.tdAt td p = none) (l : List RuM) (td' : List (P3 × Nat)) (m : Value) : Voi.addP x td (l.map Prod.fst, td') (p, t) = ((Voi.upd (toM x.tt.1 x.tt.2) l.length (l ++ [((⟨p, x.fr, x.y.1.ms, x.tt⟩ : Run), m)])).map Prod.fst, if t then (p, l.length) :: td' else td') := by
  unfold Voi.addP
  simp only [h]
  rw [upd_last, List.map_append, List.length_map]
  rfl
theorem addP_some {x : Sp} {td : List (P3 × Nat)} {p : P3} {t : Bool} {q : Nat} (h : Voi.tdAt td p = some q) (l : List RuM) (td' : List (P3 × Nat)) : Voi.addP x td (l.map Prod.fst, td') (p, t) = ((Voi.upd (toM x.tt.1 x.tt.2) q l).map Prod.fst, if t then (p, q) :: td' else td') := by
  unfold Voi.addP
  simp only [h]
  rw [Voi.upd_map (toM x.tt.1 x.tt.2) (fun r : Run => { r with e := x.tt }) Prod.fst (fun _ => rfl)]

set_option maxRecDepth 100000 in
set_option maxHeartbeats 40000000 in
theorem add_call (w0 w : World) (R M : Nat) (rv0 : Value) (mo : Option Nat) (l0 : List RuM) (td : List (P3 × Nat)) (num kd b d n e0 f0 f1 x0 x1 : Int) (ps : List P3) (ts : List Bool) (ms : List Int) (str : ByteArray) (q1 q2 q3 : Option Addr) (d1 d2 d3 : Nat)
    (h : RecI w R M w.heap.size rv0 (.map mo) l0 td) (hE : EvR w0 (.slice q1 ps.length d1) (.slice q2 ts.length d2) (.slice q3 ms.length d3) (⟨kd, ps, ts, b, d, n, e0, ms, str⟩ : Ev)) (hI : Evt.IsR (⟨kd, ps, ts, b, d, n, e0, ms, str⟩ : Ev)) (hbe : Below w0.heap.size w0 w) (hR : w0.heap.size ≤ R) (hM : w0.heap.size ≤ M) (hRM : R < M) (hMw : M ≤ w.heap.size) (hl : l0.length ≤ 100000) (hms : ms.length ≤ 1000000) (htd : ∀ q ∈ td, q.2 < l0.length) :
    Calls Tryd.prog 28 #[.pointer (some ⟨R, 0, none⟩), .agg #[.int .i64 num, .int .i64 kd, .slice q1 ps.length d1, .slice q2 ts.length d2, .int .i64 b, .int .i64 d, .int .i64 n, .int .i64 e0, .slice q3 ms.length d3, .string str, .int .i64 f0, .int .i64 f1, .int .i64 x0, .int .i64 x1]] w fun ed w' => ed = .returned (.tuple #[]) ∧ ∃ rv' mv' l' td', RecI w' R M w'.heap.size rv' mv' l' td' ∧ (l'.map Prod.fst, td') = Voi.add (⟨num, ((⟨kd, ps, ts, b, d, n, e0, ms, str⟩ : Ev), Value.slice q1 ps.length d1, Value.slice q2 ts.length d2, Value.slice q3 ms.length d3), (f0, f1), (x0, x1), 0⟩ : Sp) (l0.map Prod.fst, td) ∧ Turns (fun j => j = R ∨ rv0.ownBlock = some j) w w' := by
  have hmm := @run_makeMap Tryd.prog
  have HC := Lib.hid h
  have HE := Lib.hid hE
  have HI := Lib.hid hI
  have HTD := Lib.hid htd
  have hm8 : ps.length ≤ 8 := hI.max8
  have htl : ts.length = ps.length := hI.len
  have zR := lt_of_block h.bx
  have hrow : ∀ g, rv0.ownBlock = some g → M ≤ g ∧ g < w.heap.size := fun g hg => ⟨(h.row.lt g hg).1, h.rN g hg⟩
  have HRW := Lib.hid hrow
  have HTL := Lib.hid htl
  have HMB : Hid (∀ b, Value.map mo = .map (some b) → b < w.heap.size) := Lib.hid (fun b e => by
    rcases h.td with ⟨e', _⟩ | ⟨b', _, _, e', _, h2, _⟩
    · rw [e'] at e; cases e
    · rw [e'] at e; cases e; exact h2)
  have hv2 : Below w.heap.size w ((w.alloc (.cells #[.int .i64 num, .int .i64 kd, .slice q1 ps.length d1, .slice q2 ts.length d2, .int .i64 b, .int .i64 d, .int .i64 n, .int .i64 e0, .slice q3 ms.length d3, .string str, .int .i64 f0, .int .i64 f1, .int .i64 x0, .int .i64 x1] 86)).alloc (.map #[] 0)) := ((Below.refl _ _).alloc (Nat.le_refl _) _).alloc (by simp) _
  have hmd := World.ownsMap_made (w.alloc (.cells #[.int .i64 num, .int .i64 kd, .slice q1 ps.length d1, .slice q2 ts.length d2, .int .i64 b, .int .i64 d, .int .i64 n, .int .i64 e0, .slice q3 ms.length d3, .string str, .int .i64 f0, .int .i64 f1, .int .i64 x0, .int .i64 x1] 86)) Tryd.prog 41 (plainElem (H := Unit) Tryd.prog 3)
  rw [World.size_alloc] at hmd
  have HI0 : Hid (AddI w R M rv0 (.map mo) l0 td (⟨num, ((⟨kd, ps, ts, b, d, n, e0, ms, str⟩ : Ev), Value.slice q1 ps.length d1, Value.slice q2 ts.length d2, Value.slice q3 ms.length d3), (f0, f1), (x0, x1), 0⟩ : Sp) #[.int .i64 num, .int .i64 kd, .slice q1 ps.length d1, .slice q2 ts.length d2, .int .i64 b, .int .i64 d, .int .i64 n, .int .i64 e0, .slice q3 ms.length d3, .string str, .int .i64 f0, .int .i64 f1, .int .i64 x0, .int .i64 x1] 0 rv0 l0 [] ((w.alloc (.cells #[.int .i64 num, .int .i64 kd, .slice q1 ps.length d1, .slice q2 ts.length d2, .int .i64 b, .int .i64 d, .int .i64 n, .int .i64 e0, .slice q3 ms.length d3, .string str, .int .i64 f0, .int .i64 f1, .int .i64 x0, .int .i64 x1] 86)).alloc (.map #[] 0))) := Lib.hid ⟨⟨(news2 w _ _).1, (h.later hv2 (Nat.le_refl _)).mono (by simp; omega), ⟨0, _, Nat.le_refl _, hmd, MapN.start⟩, Turns.of_below hv2, .inl rfl, by simp, fun x hx j hj => by have := (h.mks x hx).2 j hj; omega⟩, rfl, Nat.le_refl _, Nat.le_refl _⟩
  clear hv2 hmd
  clear h hE hI htd htl hrow
  go_enter Tryd.func28, Tryd.ntmps28
  go_wp2
  go_loopw [14] (fun i wr => ∃ (k : Nat) (rv : Value) (l : List RuM) (td' : List (P3 × Nat)), k ≤ ps.length ∧ i = .int .i64 (k : Int) ∧ AddI w R M rv0 (.map mo) l0 td (⟨num, ((⟨kd, ps, ts, b, d, n, e0, ms, str⟩ : Ev), Value.slice q1 ps.length d1, Value.slice q2 ts.length d2, Value.slice q3 ms.length d3), (f0, f1), (x0, x1), 0⟩ : Sp) #[.int .i64 num, .int .i64 kd, .slice q1 ps.length d1, .slice q2 ts.length d2, .int .i64 b, .int .i64 d, .int .i64 n, .int .i64 e0, .slice q3 ms.length d3, .string str, .int .i64 f0, .int .i64 f1, .int .i64 x0, .int .i64 x1] k rv l td' wr) (fun i _ => ps.length - (intOf i).toNat)
  case atStart => exact ⟨0, _, _, _, Nat.zero_le _, rfl, HI0.out⟩
  case round =>
    clear HI0
    obtain ⟨k, rv, l, td', hk, rfl, hrel⟩ := hrel
    have HA := Lib.hid hrel
    clear hrel
    by_cases hlt : k < ps.length
    · skip
      obtain ⟨p, hp⟩ : ∃ p, ps[k]? = some p := ⟨_, List.getElem?_eq_getElem hlt⟩
      obtain ⟨t, ht⟩ : ∃ t, ts[k]? = some t := ⟨_, List.getElem?_eq_getElem (by rw [HTL.out]; exact hlt)⟩
      have HPR : Hid (Evt.rgt p = true) := Lib.hid (List.all_eq_true.1 HI.out.rgts p (List.mem_of_getElem? hp))
      have hBw := HA.out.j.below hbe hR hM (fun g hg => (HRW.out g hg).1)
      obtain ⟨b2, o2, e2, hq0, hq1, hq2⟩ := pits_at HE.out.ps hp
      obtain ⟨b3, o3, e3, hq3⟩ := bools_at HE.out.ts ht
      subst e2 e3
      have zb3 : b3 < w0.heap.size := World.block_lt_of_cell? _ _ hq3
      have zb2 : b2 < w0.heap.size := World.block_lt_of_cell? _ _ hq0
      have zw0 := hBw.size
      have HQ3 := Lib.hid hq3
      replace hq0 := cell_later hBw hq0
      replace hq1 := cell_later hBw hq1
      replace hq2 := cell_later hBw hq2
      replace hq3 := cell_later hBw hq3
      obtain ⟨p0, p1, p2⟩ := p
      dsimp only at hq0 hq1 hq2
      have HPX := Lib.hid hp
      have HTX := Lib.hid ht
      have hltI : (k : Int) < (ps.length : Int) := by omega
      have hltT : (k : Int) < (ts.length : Int) := by rw [HTL.out]; omega
      have hltTn : k < ts.length := by rw [HTL.out]; exact hlt
      clear hp ht
      have s_0 : wr.cell? ⟨w.heap.size, 0, none⟩ = some (.int .i64 num) := cell_of_cells HA.out.j.sb (j := 0) rfl
      have s_1 : wr.cell? ⟨w.heap.size, 1, none⟩ = some (.int .i64 kd) := cell_of_cells HA.out.j.sb (j := 1) rfl
      have s_2 : wr.cell? ⟨w.heap.size, 2, none⟩ = some (.slice (some ⟨b2, o2, none⟩) ps.length d1) := cell_of_cells HA.out.j.sb (j := 2) rfl
      have s_3 : wr.cell? ⟨w.heap.size, 3, none⟩ = some (.slice (some ⟨b3, o3, none⟩) ts.length d2) := cell_of_cells HA.out.j.sb (j := 3) rfl
      have s_4 : wr.cell? ⟨w.heap.size, 4, none⟩ = some (.int .i64 b) := cell_of_cells HA.out.j.sb (j := 4) rfl
      have s_5 : wr.cell? ⟨w.heap.size, 5, none⟩ = some (.int .i64 d) := cell_of_cells HA.out.j.sb (j := 5) rfl
      have s_6 : wr.cell? ⟨w.heap.size, 6, none⟩ = some (.int .i64 n) := cell_of_cells HA.out.j.sb (j := 6) rfl
      have s_7 : wr.cell? ⟨w.heap.size, 7, none⟩ = some (.int .i64 e0) := cell_of_cells HA.out.j.sb (j := 7) rfl
      have s_8 : wr.cell? ⟨w.heap.size, 8, none⟩ = some (.slice q3 ms.length d3) := cell_of_cells HA.out.j.sb (j := 8) rfl
      have s_9 : wr.cell? ⟨w.heap.size, 9, none⟩ = some (.string str) := cell_of_cells HA.out.j.sb (j := 9) rfl
      have s_10 : wr.cell? ⟨w.heap.size, 10, none⟩ = some (.int .i64 f0) := cell_of_cells HA.out.j.sb (j := 10) rfl
      have s_11 : wr.cell? ⟨w.heap.size, 11, none⟩ = some (.int .i64 f1) := cell_of_cells HA.out.j.sb (j := 11) rfl
      have s_12 : wr.cell? ⟨w.heap.size, 12, none⟩ = some (.int .i64 x0) := cell_of_cells HA.out.j.sb (j := 12) rfl
      have s_13 : wr.cell? ⟨w.heap.size, 13, none⟩ = some (.int .i64 x1) := cell_of_cells HA.out.j.sb (j := 13) rfl
      obtain ⟨pr, cr, rfl⟩ := own_shape3 HA.out.j.rc.row
      have r_0 : wr.cell? ⟨R, 0, none⟩ = some (.slice pr l.length cr) := cell_of_cells HA.out.j.rc.bx (j := 0) rfl
      have r_1 : wr.cell? ⟨R, 1, none⟩ = some (.map mo) := cell_of_cells HA.out.j.rc.bx (j := 1) rfl
      have zSB : w.heap.size < wr.heap.size := by have := HA.out.j.sz; omega
      have zRr : R < wr.heap.size := by omega
      have zb2' : b2 < wr.heap.size := by omega
      have zb3' : b3 < wr.heap.size := by omega
      have hV : Below wr.heap.size wr (wr.alloc (.cells #[.int .i64 p0, .int .i64 p1, .int .i64 p2] 41)) := (Below.refl _ _).alloc (Nat.le_refl _) _
      obtain ⟨oc, hoc⟩ : ∃ z, Voi.tdAt td (p0, p1, p2) = z := ⟨_, rfl⟩
      have HOC := Lib.hid hoc
      have hlk : (Instr.lookup 79 (.map mo) (.agg #[.int .i64 p0, .int .i64 p1, .int .i64 p2]) true).run Tryd.prog (wr.alloc (.cells #[.int .i64 p0, .int .i64 p1, .int .i64 p2] 41)).drew = .ok (.tuple #[.int .i64 ((oc.getD 0 : Nat) : Int), .bool oc.isSome]) (wr.alloc (.cells #[.int .i64 p0, .int .i64 p1, .int .i64 p2] 41)).drew := by
        have := ((HA.out.j.rc.td.keep (Nat.le_refl _) (fun b _ _ _ h _ => hV.block b h) : TiedIs (wr.alloc (.cells #[.int .i64 p0, .int .i64 p1, .int .i64 p2] 41)) M wr.heap.size (.map mo) td).keep (W' := (wr.alloc (.cells #[.int .i64 p0, .int .i64 p1, .int .i64 p2] 41)).drew) (Nat.le_refl _) (fun _ _ _ _ _ _ => rfl)).run HPR.out
        rw [hoc] at this
        exact this
      clear hoc
      go_wp2_with fail
      have j_0 : (wr.alloc (.cells #[.int .i64 p0, .int .i64 p1, .int .i64 p2] 41)).drew.cell? ⟨R, 0, none⟩ = some (.slice pr l.length cr) := alloc_cell r_0
      have j_1 : (wr.alloc (.cells #[.int .i64 p0, .int .i64 p1, .int .i64 p2] 41)).drew.cell? ⟨R, 1, none⟩ = some (.map mo) := alloc_cell r_1
      have j_2 : (wr.alloc (.cells #[.int .i64 p0, .int .i64 p1, .int .i64 p2] 41)).drew.cell? ⟨wr.heap.size, 0, none⟩ = some (.int .i64 p0) := cell_of_cells (block_new wr _) (j := 0) rfl
      have j_3 : (wr.alloc (.cells #[.int .i64 p0, .int .i64 p1, .int .i64 p2] 41)).drew.cell? ⟨wr.heap.size, 1, none⟩ = some (.int .i64 p1) := cell_of_cells (block_new wr _) (j := 1) rfl
      have j_4 : (wr.alloc (.cells #[.int .i64 p0, .int .i64 p1, .int .i64 p2] 41)).drew.cell? ⟨wr.heap.size, 2, none⟩ = some (.int .i64 p2) := cell_of_cells (block_new wr _) (j := 2) rfl
      go_region
      have hb1 : Below wr.heap.size wr (wr.alloc (.cells #[.int .i64 p0, .int .i64 p1, .int .i64 p2] 41)).drew := hV.drew
      replace s_0 := cell_later hb1 s_0
      replace s_1 := cell_later hb1 s_1
      replace s_2 := cell_later hb1 s_2
      replace s_3 := cell_later hb1 s_3
      replace s_4 := cell_later hb1 s_4
      replace s_5 := cell_later hb1 s_5
      replace s_6 := cell_later hb1 s_6
      replace s_7 := cell_later hb1 s_7
      replace s_8 := cell_later hb1 s_8
      replace s_9 := cell_later hb1 s_9
      replace s_10 := cell_later hb1 s_10
      replace s_11 := cell_later hb1 s_11
      replace s_12 := cell_later hb1 s_12
      replace s_13 := cell_later hb1 s_13
      replace hq3 := cell_later hb1 hq3
      have HJ1 := Lib.hid (HA.out.j.later hb1)
      have HRB : Hid (∀ g, (Value.slice pr l.length cr).ownBlock = some g → g < wr.heap.size) := Lib.hid (fun g hg => (HA.out.j.rc.row.lt g hg).2)
      have HPB : Hid ((wr.alloc (.cells #[.int .i64 p0, .int .i64 p1, .int .i64 p2] 41)).drew.heap[wr.heap.size]? = some (.cells #[.int .i64 p0, .int .i64 p1, .int .i64 p2] 41 (0, 0))) := Lib.hid (block_new wr _)
      have zRP : R ≠ wr.heap.size := by omega
      have HEQ := Lib.hid HA.out.eq
      have HLN := Lib.hid HA.out.ln
      have hln0 := HA.out.ln
      have HB1 : Hid (Below w0.heap.size w0 (wr.alloc (.cells #[.int .i64 p0, .int .i64 p1, .int .i64 p2] 41)).drew) := Lib.hid (hBw.trans (hb1.mono zw0))
      have zP : wr.heap.size < (wr.alloc (.cells #[.int .i64 p0, .int .i64 p1, .int .i64 p2] 41)).drew.heap.size := World.block_lt_of_cell? _ _ j_2
      have zSB1 : w.heap.size < (wr.alloc (.cells #[.int .i64 p0, .int .i64 p1, .int .i64 p2] 41)).drew.heap.size := by omega
      have zR1 : R < (wr.alloc (.cells #[.int .i64 p0, .int .i64 p1, .int .i64 p2] 41)).drew.heap.size := by omega
      have fR : (wr.alloc (.cells #[.int .i64 p0, .int .i64 p1, .int .i64 p2] 41)).drew.frozen? ⟨R, 0, none⟩ = false := frozen_of_cells HJ1.out.rc.bx
      clear hb1 hV hlk r_0 r_1 hq0 hq1 hq2 HA hBw
      generalize (wr.alloc (.cells #[.int .i64 p0, .int .i64 p1, .int .i64 p2] 41)).drew = V1 at *
      generalize wr.heap.size = PBk at *
      go_upto_if 29 with fail
      go_cut [7] (fun p wx => ∃ (q g cap : Nat) (l2 : List RuM), p = .int .i64 (q : Int) ∧ AddJ w R M rv0 (.map mo) td #[.int .i64 num, .int .i64 kd, .slice (some ⟨b2, o2, none⟩) ps.length d1, .slice (some ⟨b3, o3, none⟩) ts.length d2, .int .i64 b, .int .i64 d, .int .i64 n, .int .i64 e0, .slice q3 ms.length d3, .string str, .int .i64 f0, .int .i64 f1, .int .i64 x0, .int .i64 x1] k (.slice (some ⟨g, 0, none⟩) l2.length cap) l2 td' wx ∧ wx.heap[PBk]? = some (.cells #[.int .i64 p0, .int .i64 p1, .int .i64 p2] 41 (0, 0)) ∧ q < l2.length ∧ Voi.addP (⟨num, ((⟨kd, ps, ts, b, d, n, e0, ms, str⟩ : Ev), Value.slice (some ⟨b2, o2, none⟩) ps.length d1, Value.slice (some ⟨b3, o3, none⟩) ts.length d2, Value.slice q3 ms.length d3), (f0, f1), (x0, x1), 0⟩ : Sp) td (l.map Prod.fst, td') ((p0, p1, p2), t) = ((Voi.upd (toM x0 x1) q l2).map Prod.fst, if t then ((p0, p1, p2), q) :: td' else td') ∧ l.length ≤ l2.length ∧ l2.length ≤ l.length + 1)
      case first =>
        cases oc with
        | none =>
          have HBG : Hid (Calls Tryd.prog 53 #[pt p0 p1 p2, .agg #[.int .i64 num, .int .i64 kd, .slice (some ⟨b2, o2, none⟩) ps.length d1, .slice (some ⟨b3, o3, none⟩) ts.length d2, .int .i64 b, .int .i64 d, .int .i64 n, .int .i64 e0, .slice q3 ms.length d3, .string str, .int .i64 f0, .int .i64 f1, .int .i64 x0, .int .i64 x1]] V1.drew fun ed w' => (∃ m', ed = .returned (runV p0 p1 p2 f0 f1 0 0 m' x0 x1) ∧ Ints w' m' ms ∧ Own V1.drew.heap.size m' ∧ Inn w' m') ∧ Below V1.drew.heap.size V1.drew w') := Lib.hid (begun_any p0 p1 p2 num kd b d n e0 f0 f1 x0 x1 (ps.length, d1) (ts.length, d2) _ _ q3 d3 ms str V1.drew ((HE.out.ms.later HB1.out).later (Below.refl _ _).drew) hms)
          have hln := HLN.out
          go_wp2_with fail
          obtain ⟨i0, hi, hz0, hz1, hz2⟩ := info_parts infoRu
          have t_0 := cell_drew s_0
          have t_1 := cell_drew s_1
          have t_2 := cell_drew s_2
          have t_3 := cell_drew s_3
          have t_4 := cell_drew s_4
          have t_5 := cell_drew s_5
          have t_6 := cell_drew s_6
          have t_7 := cell_drew s_7
          have t_8 := cell_drew s_8
          have t_9 := cell_drew s_9
          have t_10 := cell_drew s_10
          have t_11 := cell_drew s_11
          have t_12 := cell_drew s_12
          have t_13 := cell_drew s_13
          have t_R := cell_drew j_0
          have t_p0 := cell_drew j_2
          have t_p1 := cell_drew j_3
          have t_p2 := cell_drew j_4
          have HROW : Hid (V1.drew.ownsRow M 114 10 (.slice pr l.length cr) l.length (l.flatMap encRu)) := Lib.hid HJ1.out.rc.row
          go_region_law (first
            | (go_simp; go_at_call 53; refine (HBG.out).mono ?_; rintro e u ⟨⟨m', rfl, hI', hO', hN'⟩, hbu0⟩; obtain ⟨pm, cm, rfl, _⟩ := sl_shape hI'; have hbu := Lib.hid hbu0; have HIm := Lib.hid hI'; have HOm := Lib.hid hO'; have HNm := Lib.hid hN'; have t_Ru := cell_later hbu0 t_R; have zu : V1.heap.size ≤ u.heap.size := hbu0.size; have zRu : R < u.heap.size := Nat.lt_of_lt_of_le zR1 zu; clear hI' hO' hN' hbu0)
            | (refine step_append_lies _ rfl _ _ 78 rfl M 114 i0 (.agg #[.int .i64 0, .int .i64 0, .int .i64 0, .int .i64 0, .int .i64 0, .int .i64 0, .int .i64 0, .slice none 0 0, .int .i64 0, .int .i64 0]) 10 96 Tryd.underlying78 hi hz0 hz1 hz2 rfl (by decide) (.slice pr l.length cr) l.length (l.flatMap encRu) rfl ((own_later HROW.out hbu.out).alloc _) ⟨u.heap.size, 0, none⟩ 1 1 (encRu (((⟨(p0, p1, p2), (f0, f1), ms, (x0, x1)⟩ : Run), Value.slice pm ms.length cm) : RuM)) rfl rfl (cells10_new u _ (((⟨(p0, p1, p2), (f0, f1), ms, (x0, x1)⟩ : Run), Value.slice pm ms.length cm) : RuM) rfl) (oneRu (((⟨(p0, p1, p2), (f0, f1), ms, (x0, x1)⟩ : Run), Value.slice pm ms.length cm) : RuM) _ _ _ rfl) (by decide) (by unfold maxLen; omega) (by omega) (by simp; omega) _ rfl ?_; intro g' cap' w5 hown5 hgrow5 hat5 hlt5; have hA5 := Lib.hid hown5; have hG5 := Lib.hid hgrow5; have hT5 := Lib.hid hat5; have hkp : w5.heap[R]? = some (.cells #[.slice pr l.length cr, .map mo] 81 (0, 0)) := keep_R HJ1.out.rc.row HJ1.out.rc.bx hbu.out hG5.out hRM; have t_R5 := cell_of_cells hkp (j := 0) rfl; have f_R5 := frozen_of_cells hkp (j := 0); clear hown5 hgrow5 hat5 hkp))
          all_goals
            go_wp2_with fail
            go_meet
            case rel =>
              exact ⟨l.length, g', cap', l ++ [((⟨(p0, p1, p2), (f0, f1), ms, (x0, x1)⟩ : Run), Value.slice pm ms.length cm)], rfl, by
                rw [List.length_append]
                exact HJ1.out.push (r := ⟨(p0, p1, p2), (f0, f1), ms, (x0, x1)⟩) (undrew hbu.out) HIm.out HOm.out HNm.out rfl hA5.out hG5.out hT5.out hRM hMw HRW.out, (push_keep (undrew hbu.out) hG5.out zP (fun e => by have := HRB.out _ e; omega) (fun e => zRP e.symm)).trans HPB.out, by simp, addP_none HOC.out l td' _, by simp, by simp⟩
        | some q =>
          have hql : q < l.length := Nat.lt_of_lt_of_le (HTD.out _ (Voi.tdAt_mem HOC.out)) hln0.1
          obtain ⟨g, cap, hrv⟩ : ∃ g cap, Value.slice pr l.length cr = .slice (some ⟨g, 0, none⟩) l.length cap := by
            rcases HJ1.out.rc.row.2 with ⟨_, h0⟩ | ⟨g, cap, cur, e, _⟩
            · omega
            · exact ⟨g, cap, e⟩
          have HJ2 := HJ1.out
          rw [hrv] at HJ2
          have HJ3 := Lib.hid HJ2
          clear HJ2 hrv
          go_wp2_with fail
          go_meet
          case rel => exact ⟨q, g, cap, l, rfl, HJ3.out, HPB.out, hql, addP_some HOC.out l td', Nat.le_refl _, by omega⟩
      case rest =>
      obtain ⟨q, g, cap, l2, rfl, hj2, hpb2, hl2, hpl, hle1, hle2⟩ := hcut
      have HJ2 := Lib.hid hj2
      have HPB2 := Lib.hid hpb2
      have HL2 := Lib.hid hl2
      have HPL := Lib.hid hpl
      have HLE := Lib.hid (And.intro hle1 hle2)
      have HB2 := Lib.hid (HJ2.out.below hbe hR hM (fun g hg => (HRW.out g hg).1))
      clear hj2 hpb2 hl2 hpl hle1 hle2 HJ1 HRB HPB HOC
      clear s_0 s_1 s_2 s_3 s_4 s_5 s_6 s_7 s_8 s_9 s_10 s_11 s_12 s_13 j_0 j_1 j_2 j_3 j_4 fR hq3
      obtain ⟨V2, hV2⟩ : ∃ V2, wc = V2 := ⟨_, rfl⟩
      subst hV2
      obtain ⟨⟨z0, c_g0⟩, ⟨z1, c_g1⟩, f_g⟩ := run_cell HJ2.out.rc.row HL2.out
      have k_g0 := cell_drew c_g0
      have k_g1 := cell_drew c_g1
      have h_g0 : wc.drew.frozen? ⟨g, q * 10 + 8, none⟩ = false := f_g _
      have h_g1 : wc.drew.frozen? ⟨g, q * 10 + 9, none⟩ = false := f_g _
      have k_R : wc.drew.cell? ⟨R, 0, none⟩ = some (.slice (some ⟨g, 0, none⟩) l2.length cap) := cell_of_cells HJ2.out.rc.bx (j := 0) rfl
      have k_12 : wc.drew.cell? ⟨w.heap.size, 12, none⟩ = some (.int .i64 x0) := cell_of_cells HJ2.out.sb (j := 12) rfl
      have k_13 : wc.drew.cell? ⟨w.heap.size, 13, none⟩ = some (.int .i64 x1) := cell_of_cells HJ2.out.sb (j := 13) rfl
      have hqn : ((q : Nat) : Int) < ((l2.length : Nat) : Int) := by have := HL2.out; omega
      have hqn' : q < l2.length := by have := HL2.out; omega
      go_wp2_with fail
      go_region
      have HJ3 : Hid (AddJ w R M rv0 (.map mo) td #[.int .i64 num, .int .i64 kd, .slice (some ⟨b2, o2, none⟩) ps.length d1, .slice (some ⟨b3, o3, none⟩) ts.length d2, .int .i64 b, .int .i64 d, .int .i64 n, .int .i64 e0, .slice q3 ms.length d3, .string str, .int .i64 f0, .int .i64 f1, .int .i64 x0, .int .i64 x1] k (.slice (some ⟨g, 0, none⟩) l2.length cap) (Voi.upd (toM x0 x1) q l2) td' ((wc.setCell ⟨g, q * 10 + 8, none⟩ (.int .i64 x0)).setCell ⟨g, q * 10 + 8 + 1, none⟩ (.int .i64 x1)).drew) := Lib.hid ((HJ2.out.put rfl HL2.out hRM HRW.out).later (Below.refl _ _).drew)
      have HPB3 : Hid (((wc.setCell ⟨g, q * 10 + 8, none⟩ (.int .i64 x0)).setCell ⟨g, q * 10 + 8 + 1, none⟩ (.int .i64 x1)).drew.heap[PBk]? = some (.cells #[.int .i64 p0, .int .i64 p1, .int .i64 p2] 41 (0, 0))) := Lib.hid (by
        have hne : PBk ≠ g := fun e => row_ne_box HJ2.out.rc.row HPB2.out (by decide) (by rw [e]; rfl)
        exact block_far (block_far HPB2.out hne) hne)
      clear k_g0 k_g1 h_g0 h_g1 k_R k_12 k_13 c_g0 c_g1 f_g HJ2 HPB2 HB2
      generalize ((wc.setCell ⟨g, q * 10 + 8, none⟩ (.int .i64 x0)).setCell ⟨g, q * 10 + 8 + 1, none⟩ (.int .i64 x1)).drew = V3 at *
      have hB3 := HJ3.out.below hbe hR hM (fun g hg => (HRW.out g hg).1)
      have v_t : V3.cell? ⟨b3, o3 + k, none⟩ = some (.bool t) := cell_later hB3 HQ3.out
      have v_3 : V3.cell? ⟨w.heap.size, 3, none⟩ = some (.slice (some ⟨b3, o3, none⟩) ts.length d2) := cell_of_cells HJ3.out.sb (j := 3) rfl
      have v_p0 : V3.cell? ⟨PBk, 0, none⟩ = some (.int .i64 p0) := cell_of_cells HPB3.out (j := 0) rfl
      have v_p1 : V3.cell? ⟨PBk, 1, none⟩ = some (.int .i64 p1) := cell_of_cells HPB3.out (j := 1) rfl
      have v_p2 : V3.cell? ⟨PBk, 2, none⟩ = some (.int .i64 p2) := cell_of_cells HPB3.out (j := 2) rfl
      have HNX : Hid (((Voi.upd (toM x0 x1) q l2).map Prod.fst, if t then ((p0, p1, p2), q) :: td' else td') = ((Evt.pts (⟨kd, ps, ts, b, d, n, e0, ms, str⟩ : Ev)).take (k + 1)).foldl (Voi.addP (⟨num, ((⟨kd, ps, ts, b, d, n, e0, ms, str⟩ : Ev), Value.slice (some ⟨b2, o2, none⟩) ps.length d1, Value.slice (some ⟨b3, o3, none⟩) ts.length d2, Value.slice q3 ms.length d3), (f0, f1), (x0, x1), 0⟩ : Sp) td) (l0.map Prod.fst, [])) := Lib.hid (by
        rw [pts_take (x := (⟨kd, ps, ts, b, d, n, e0, ms, str⟩ : Ev)) HPX.out HTX.out, List.foldl_append]
        have e := HEQ.out
        try dsimp only at e
        rw [← e, List.foldl_cons, List.foldl_nil, HPL.out])
      have HLN3 : Hid (l0.length ≤ (Voi.upd (toM x0 x1) q l2).length ∧ (Voi.upd (toM x0 x1) q l2).length ≤ l0.length + (k + 1)) := Lib.hid (by rw [Voi.upd_length]; have := HLE.out; have := HLN.out; omega)
      have hq9 : q ≤ 200000 := by have := HL2.out; have := HLE.out; have := HLN.out; omega
      have zB3 : b3 < V3.heap.size := World.block_lt_of_cell? _ _ v_t
      clear HPB3 hB3 HEQ HPL
      cases t with
      | false =>
        go_wp2
        go_roundw
        case rel => exact ⟨k + 1, _, _, _, by omega, by go_num, ⟨HJ3.out.more, HNX.out, HLN3.out⟩⟩
        case measure => simp [intOf]; omega
      | true =>
        obtain ⟨m, D, hm, hown, hmap⟩ := HJ3.out.mp
        obtain ⟨w7, hrun, hown7, hgrow7⟩ := hown.update keyedP Tryd.underlying79 (by unfold maxLen; omega) (key_of HPR.out) (plainElem_int (q := .i64) (a := (q : Int)) Tryd.underlying3 (wf_small hq9))
        have hrun' : (Instr.mapUpdate 79 (.map (some (w.heap.size + 1))) (.agg #[.int .i64 p0, .int .i64 p1, .int .i64 p2]) (.int .i64 (q : Int))).run Tryd.prog V3 = .ok () w7 := hrun
        have HJ7 := Lib.hid (HJ3.out.map hgrow7 hown7 (by omega) (hmap.step HPR.out q) zR HMB.out)
        clear hrun hown7 hgrow7 hown hmap
        go_wp2
        go_roundw
        case rel => exact ⟨k + 1, _, _, _, by omega, by go_num, ⟨HJ7.out, HNX.out, HLN3.out⟩⟩
        case measure => simp [intOf]; omega
    · obtain rfl : k = ps.length := by omega
      have hge : ¬ (ps.length : Int) < (ps.length : Int) := by omega
      have r_0 := cell_of_cells HA.out.j.rc.bx (j := 0) rfl
      have r_1 : wr.cell? ⟨R, 1, none⟩ = some (.map mo) := cell_of_cells HA.out.j.rc.bx (j := 1) rfl
      have f_1 := frozen_of_cells HA.out.j.rc.bx (j := 1)
      have zRr : R < wr.heap.size := lt_of_block HA.out.j.rc.bx
      have HFN : Hid (RecI (wr.setCell ⟨R, 1, none⟩ (.map (some (w.heap.size + 1)))) R M (wr.setCell ⟨R, 1, none⟩ (.map (some (w.heap.size + 1)))).heap.size rv (.map (some (w.heap.size + 1))) l td') := Lib.hid (by
        obtain ⟨m, D, hm, hown, hmap⟩ := HA.out.j.mp
        have hs := HA.out.j.sz
        have rc := HA.out.j.rc
        have far : ∀ j, j ≠ R → (wr.setCell ⟨R, 1, none⟩ (.map (some (w.heap.size + 1)))).heap[j]? = wr.heap[j]? := fun j hj => Below.heap_setCell _ _ _ _ hj
        have hsz : (wr.setCell ⟨R, 1, none⟩ (.map (some (w.heap.size + 1)))).heap.size = wr.heap.size := by simp
        rw [hsz]
        refine ⟨cells_second rc.bx, own_set rc.row hRM, rc.rN, fun x hx => ⟨(rc.mks x hx).1.block (fun j hj => far j (by have := (rc.mks x hx).2 j hj; omega)), (rc.mks x hx).2⟩, .inr ⟨w.heap.size + 1, m, D, rfl, by omega, by omega, ownsN_block hown (far _ (by omega)), hmap⟩⟩)
      have HTU : Hid (Turns (fun j => j = R ∨ rv0.ownBlock = some j) w (wr.setCell ⟨R, 1, none⟩ (.map (some (w.heap.size + 1))))) := Lib.hid (HA.out.j.tu.trans (Turns.set _ _ (.inl rfl)))
      have HEQ : Hid ((l.map Prod.fst, td') = Voi.add (⟨num, ((⟨kd, ps, ts, b, d, n, e0, ms, str⟩ : Ev), Value.slice q1 ps.length d1, Value.slice q2 ts.length d2, Value.slice q3 ms.length d3), (f0, f1), (x0, x1), 0⟩ : Sp) (l0.map Prod.fst, td)) := Lib.hid (HA.out.eq.trans (by
        have e := pts_all HI.out
        dsimp only at e
        unfold Voi.add
        dsimp only
        rw [e]))
      go_wp2
      go_end0
      exact ⟨rfl, _, _, _, _, HFN.out, HEQ.out, HTU.out⟩
end Go.Proofs.YtobhmiknlbjmkaaDoor
