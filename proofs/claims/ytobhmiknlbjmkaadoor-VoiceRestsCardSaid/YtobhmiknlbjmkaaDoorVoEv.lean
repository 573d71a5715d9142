/-
  Out of layer 6: rows of events in memory, the contracts of event.Length and Same, maps of pitches.
-/
import Derived.Test.YtobhmiknlbjmkaaDoorEvD
import Derived.Test.YtobhmiknlbjmkaaDoorEvSum
import Derived.OwnWalk
import Derived.Maps.OwnSet
import Derived.Maps.OwnOps
import Derived.Maps.AppendAt
import Derived.Maps.Views
import Derived.DeepKeys4
namespace Go.Proofs.YtobhmiknlbjmkaaDoor
open Go.RowKit Go.Maps
open Evt (P3 Ev PT tie)

theorem flat_len {α : Type} {enc : α → List Value} {k : Nat} (hk : ∀ x, (enc x).length = k) : ∀ l : List α, (l.flatMap enc).length = l.length * k
  | [] => by simp
  | x :: l => by rw [List.flatMap_cons, List.length_append, hk, flat_len hk l, List.length_cons, Nat.add_mul, Nat.one_mul, Nat.add_comm]

theorem flat_at {α : Type} {enc : α → List Value} {k : Nat} (hk : ∀ x, (enc x).length = k) : ∀ (l : List α) (i : Nat) (x : α) (j : Nat), l[i]? = some x → j < k → (l.flatMap enc)[i * k + j]? = (enc x)[j]?
  | [], i, x, j, h, _ => by simp at h
  | y :: l, 0, x, j, h, hj => by
    simp at h; subst h
    rw [List.flatMap_cons, Nat.zero_mul, Nat.zero_add, List.getElem?_append_left (by rw [hk]; exact hj)]
  | y :: l, i + 1, x, j, h, hj => by
    rw [List.flatMap_cons, List.getElem?_append_right (by rw [hk, Nat.add_mul, Nat.one_mul]; omega), hk, show (i + 1) * k + j - k = i * k + j by rw [Nat.add_mul, Nat.one_mul]; omega]
    exact flat_at hk l i x j (by simpa using h) hj

theorem flat_inv {α : Type} {enc : α → List Value} {k : Nat} (hk : ∀ x, (enc x).length = k) (h0 : 0 < k) (l : List α) {t : Nat} {u : Value} (h : (l.flatMap enc)[t]? = some u) : ∃ x, l[t / k]? = some x ∧ (enc x)[t % k]? = some u := by
  have ht : t < l.length * k := by rw [← flat_len hk l]; exact (List.getElem?_eq_some_iff.1 h).1
  have hi : t / k < l.length := (Nat.div_lt_iff_lt_mul h0).2 ht
  refine ⟨l[t / k], List.getElem?_eq_getElem hi, ?_⟩
  rw [← flat_at hk l (t / k) _ (t % k) (List.getElem?_eq_getElem hi) (Nat.mod_lt _ h0), Nat.div_add_mod' t k]
  exact h

/-- What append wants of a list that is appended. -/
theorem Sl.news {α : Type} {enc : α → List Value} {k : Nat} (hk : ∀ x, (enc x).length = k) (h0 : 0 < k) {W : World} {ad : Addr} {n c : Nat} {l : List α} (h : Sl k enc W (.slice (some ad) n c) l) (j : Nat) (u : Value) (hj : (l.flatMap enc)[j]? = some u) : W.cell? (ad.add j) = some u := by
  obtain ⟨p, cap, e, _, _, hx⟩ := h
  cases e
  obtain ⟨x, h1, h2⟩ := flat_inv hk h0 l hj
  obtain ⟨b, o, e, hc⟩ := hx _ x h1
  cases e
  have := hc _ u h2
  rw [show o + j / k * k + j % k = o + j by have := Nat.div_add_mod' j k; omega] at this
  rw [Addr.add_lit]
  exact this

/-- A row of the call's own is a list in memory. -/
theorem row_sl {α : Type} {enc : α → List Value} {k : Nat} (hk : ∀ x, (enc x).length = k) {W : World} {base : Nat} {e : TypeId} {v : Value} {n : Nat} {l : List α} (hn : n = l.length) (hb : l.length ≤ 140737488355328) (h : W.ownsRow base e k v n (l.flatMap enc)) : Sl k enc W v l := by
  subst hn
  have hlt : ∀ g, v.ownBlock = some g → ∀ j u, (l.flatMap enc)[j]? = some u → W.cell? ((⟨g, 0, none⟩ : Addr).add j) = some u := fun g hg => h.cells hg
  rcases h.2 with ⟨rfl, h0⟩ | ⟨g, cap, cur, rfl, _, _, hc, _, _, _⟩
  · have := List.eq_nil_of_length_eq_zero h0
    subst this
    exact Sl.none _ _ _
  · refine ⟨_, cap, rfl, hb, hc, fun i x hx => ⟨g, 0, rfl, fun j u hu => ?_⟩⟩
    have hj : j < k := by rw [← hk x]; exact (List.getElem?_eq_some_iff.1 hu).1
    have := hlt g rfl (i * k + j) u ((flat_at hk l i x j hx hj).trans hu)
    rw [Nat.zero_add]
    rw [Addr.add_lit] at this
    simpa using this

/-- A slice that lies in a block from base on, or is nil. -/
def Own (base : Nat) (v : Value) : Prop := ∀ g, v.ownBlock = some g → base ≤ g

theorem Own.nil (base : Nat) (n c : Nat) : Own base (.slice none n c) := fun g h => by cases h

theorem own_row {W : World} {base : Nat} {e : TypeId} {k n : Nat} {v : Value} {xs : List Value} (h : W.ownsRow base e k v n xs) : Own base v := fun g hg => (h.lt g hg).1

theorem Own.mono {b b' : Nat} {v : Value} (h : Own b v) (hb : b' ≤ b) : Own b' v := fun g hg => Nat.le_trans hb (h g hg)

theorem Sl.set {α : Type} {k : Nat} {enc : α → List Value} {W : World} {v : Value} {l : List α} {base B o : Nat} {x : Value} (h : Sl k enc W v l) (ho : Own base v) (hB : B < base) : Sl k enc (W.setCell ⟨B, o, .none⟩ x) v l := by
  obtain ⟨p, cap, rfl, hl, hc, hx⟩ := h
  refine ⟨p, cap, rfl, hl, hc, fun i y hi => ?_⟩
  obtain ⟨b, q, e, c⟩ := hx i y hi
  subst e
  refine ⟨b, q, rfl, fun j u hu => ?_⟩
  have := ho b rfl
  exact set_far (by omega) (c j u hu)

theorem ones_of {α : Type} {enc : α → List Value} (h : ∀ x, ∀ u ∈ enc x, u.oneCell' = true) (l : List α) : ∀ u ∈ l.flatMap enc, u.oneCell' = true := by
  intro u hu
  obtain ⟨x, _, hx⟩ := List.mem_flatMap.1 hu
  exact h x u hx

theorem oneI : ∀ x, ∀ u ∈ encI x, u.oneCell' = true := by intro x u hu; simp [encI] at hu; subst hu; rfl

theorem oneP : ∀ x, ∀ u ∈ encP x, u.oneCell' = true := by intro x u hu; simp [encP] at hu; rcases hu with rfl | rfl | rfl <;> rfl

theorem lenI : ∀ x, (encI x).length = 1 := fun _ => rfl

theorem lenP : ∀ x, (encP x).length = 3 := fun _ => rfl

theorem infoI : (Tryd.prog.info? 3).map (fun i => (i.zero, i.size, i.bytes)) = some (some (.int .i64 0), 1, 8) := by kernel_rfl

theorem own_later {w w' : World} {base : Nat} {e : TypeId} {size : Nat} {v : Value} {n : Nat} {xs : List Value} (h : w.ownsRow base e size v n xs) (hb : Below w.heap.size w w') : w'.ownsRow base e size v n xs :=
  h.kept (row := none) ⟨hb.os, hb.tape, hb.output, hb.size, fun k hk _ => hb.block k hk⟩ (by cases hv : v.ownBlock <;> simp)

theorem own_set {w : World} {base B o : Nat} {x : Value} {e : TypeId} {size : Nat} {v : Value} {n : Nat} {xs : List Value} (h : w.ownsRow base e size v n xs) (hB : B < base) : (w.setCell ⟨B, o, none⟩ x).ownsRow base e size v n xs :=
  h.kept (row := some B) ⟨rfl, rfl, rfl, by simp [World.setCell], fun k _ hk => Below.heap_setCell _ _ _ _ (fun e => hk (by rw [e]))⟩ (.inr (fun e => by have := (h.lt B e).1; omega))

set_option maxRecDepth 100000 in
set_option maxHeartbeats 4000000 in
theorem elength_no (x : Ev) (vp vt vm : Value) (w : World) (h : EvR w vp vt vm x) (hR : Ready w) (HQ : Hid (Evt.right x = false)) :
    Calls Tryd.prog 52 #[evv x vp vt vm] w fun ed w' => ed = .returned (rv 0 0 60) ∧ Below w.heap.size w w' := by
  obtain ⟨k, ps, ts, b, d, n, e0, ms, str⟩ := x
  obtain ⟨hps, hts, hms, hsz⟩ := h
  dsimp only at hps hts hms hsz HQ ⊢
  have Hps := Lib.hid hps
  obtain ⟨pps, cps, rfl, lps⟩ := sl_shape hps
  have Hts := Lib.hid hts
  obtain ⟨pts, cts, rfl, lts⟩ := sl_shape hts
  have Hms := Lib.hid hms
  obtain ⟨pms, cms, rfl, lms⟩ := sl_shape hms
  clear hps hts hms
  have hB0 : Below w.heap.size w w := Below.refl _ _
  go_enter Tryd.func52, Tryd.ntmps52
  go_wp2_with fail
  have hR' := hR.below ((hB0.alloc hB0.size (.cells #[.int .i64 k, .slice pps ps.length cps, .slice pts ts.length cts, .int .i64 b, .int .i64 d, .int .i64 n, .int .i64 e0, .slice pms ms.length cms, .string str] 51)).alloc (hB0.alloc hB0.size (.cells #[.int .i64 k, .slice pps ps.length cps, .slice pts ts.length cts, .int .i64 b, .int .i64 d, .int .i64 n, .int .i64 e0, .slice pms ms.length cms, .string str] 51)).size (.cells #[.int .i64 0, .int .i64 0] 36))
  refine (eright_is HQ.out _ _ _ _ ⟨Hps.out.later (by repeat (first | exact Below.refl _ _ | refine Below.alloc ?_ (by simp <;> omega) _)), Hts.out.later (by repeat (first | exact Below.refl _ _ | refine Below.alloc ?_ (by simp <;> omega) _)), Hms.out.later (by repeat (first | exact Below.refl _ _ | refine Below.alloc ?_ (by simp <;> omega) _)), hsz⟩ hR').mono ?_
  rintro e w1 ⟨rfl, hb1⟩
  clear hR'
  have hs1 : Below w.heap.size w w1 := Below.trans (by repeat (first | exact Below.refl _ _ | refine Below.alloc ?_ (by simp <;> omega) _)) (hb1.mono (by simp <;> omega))
  replace Hps := Lib.hid (Hps.out.later hs1)
  replace Hts := Lib.hid (Hts.out.later hs1)
  replace Hms := Lib.hid (Hms.out.later hs1)
  have c_e_0 : w1.cell? ⟨w.heap.size, 0, none⟩ = some (.int .i64 k) := (hb1.cell (by simp <;> omega)).trans (by go_simp)
  have c_e_1 : w1.cell? ⟨w.heap.size, 1, none⟩ = some (.slice pps ps.length cps) := (hb1.cell (by simp <;> omega)).trans (by go_simp)
  have c_e_2 : w1.cell? ⟨w.heap.size, 2, none⟩ = some (.slice pts ts.length cts) := (hb1.cell (by simp <;> omega)).trans (by go_simp)
  have c_e_3 : w1.cell? ⟨w.heap.size, 3, none⟩ = some (.int .i64 b) := (hb1.cell (by simp <;> omega)).trans (by go_simp)
  have c_e_4 : w1.cell? ⟨w.heap.size, 4, none⟩ = some (.int .i64 d) := (hb1.cell (by simp <;> omega)).trans (by go_simp)
  have c_e_5 : w1.cell? ⟨w.heap.size, 5, none⟩ = some (.int .i64 n) := (hb1.cell (by simp <;> omega)).trans (by go_simp)
  have c_e_6 : w1.cell? ⟨w.heap.size, 6, none⟩ = some (.int .i64 e0) := (hb1.cell (by simp <;> omega)).trans (by go_simp)
  have c_e_7 : w1.cell? ⟨w.heap.size, 7, none⟩ = some (.slice pms ms.length cms) := (hb1.cell (by simp <;> omega)).trans (by go_simp)
  have c_e_8 : w1.cell? ⟨w.heap.size, 8, none⟩ = some (.string str) := (hb1.cell (by simp <;> omega)).trans (by go_simp)
  have c_r_0 : w1.cell? ⟨w.heap.size + 1, 0, none⟩ = some (.int .i64 0) := (hb1.cell (by simp <;> omega)).trans (by go_simp)
  have f_r_0 : w1.frozen? ⟨w.heap.size + 1, 0, none⟩ = false := (hb1.frozen (by simp <;> omega)).trans (by go_simp)
  have c_r_1 : w1.cell? ⟨w.heap.size + 1, 1, none⟩ = some (.int .i64 0) := (hb1.cell (by simp <;> omega)).trans (by go_simp)
  have f_r_1 : w1.frozen? ⟨w.heap.size + 1, 1, none⟩ = false := (hb1.frozen (by simp <;> omega)).trans (by go_simp)
  have z_e := World.block_lt_of_cell? _ _ c_e_0
  have z_r := World.block_lt_of_cell? _ _ c_r_0
  have hB1 := below_two hB0 hs1
  clear hB0 hs1 hb1
  obtain ⟨m0, m1⟩ := put2_of (x := .int .i64 0) (y := .int .i64 0) c_r_0 c_r_1
  go_wp2
  exact bodyPost_ret (v := .tuple #[.agg #[.int .i64 0, .int .i64 0], .int .i64 60]) (by simp [results, Tryd.results52, go_sem, m0, m1]) rfl ⟨rfl, put2_below hB1 (by omega)⟩

theorem vlen_is {b d n e N D E : Int} (hN : Val.lenN b d n e = N) (hD : Val.lenD b d n e = D) (hE : Val.lenE b d n e = E) (w : World) (hR : Ready w) : Calls Tryd.prog 79 #[vl b d n e] w fun ed w' => ed = .returned (rv N D E) ∧ Below w.heap.size w w' := by
  subst hN hD hE; exact length_any b d n e w hR

set_option maxRecDepth 100000 in
set_option maxHeartbeats 4000000 in
theorem elength_yes (x : Ev) (vp vt vm : Value) (w : World) (N D E : Int) (h : EvR w vp vt vm x) (hR : Ready w) (HQ : Hid (Evt.right x = true)) (HN : Hid (Val.lenN x.b x.d x.n x.e = N)) (HD : Hid (Val.lenD x.b x.d x.n x.e = D)) (HE : Hid (Val.lenE x.b x.d x.n x.e = E)) :
    Calls Tryd.prog 52 #[evv x vp vt vm] w fun ed w' => ed = .returned (rv N D E) ∧ Below w.heap.size w w' := by
  obtain ⟨k, ps, ts, b, d, n, e0, ms, str⟩ := x
  obtain ⟨hps, hts, hms, hsz⟩ := h
  dsimp only at hps hts hms hsz HQ HN HD HE ⊢
  have Hps := Lib.hid hps
  obtain ⟨pps, cps, rfl, lps⟩ := sl_shape hps
  have Hts := Lib.hid hts
  obtain ⟨pts, cts, rfl, lts⟩ := sl_shape hts
  have Hms := Lib.hid hms
  obtain ⟨pms, cms, rfl, lms⟩ := sl_shape hms
  clear hps hts hms
  have hB0 : Below w.heap.size w w := Below.refl _ _
  go_enter Tryd.func52, Tryd.ntmps52
  go_wp2_with fail
  have hR' := hR.below ((hB0.alloc hB0.size (.cells #[.int .i64 k, .slice pps ps.length cps, .slice pts ts.length cts, .int .i64 b, .int .i64 d, .int .i64 n, .int .i64 e0, .slice pms ms.length cms, .string str] 51)).alloc (hB0.alloc hB0.size (.cells #[.int .i64 k, .slice pps ps.length cps, .slice pts ts.length cts, .int .i64 b, .int .i64 d, .int .i64 n, .int .i64 e0, .slice pms ms.length cms, .string str] 51)).size (.cells #[.int .i64 0, .int .i64 0] 36))
  refine (eright_is HQ.out _ _ _ _ ⟨Hps.out.later (by repeat (first | exact Below.refl _ _ | refine Below.alloc ?_ (by simp <;> omega) _)), Hts.out.later (by repeat (first | exact Below.refl _ _ | refine Below.alloc ?_ (by simp <;> omega) _)), Hms.out.later (by repeat (first | exact Below.refl _ _ | refine Below.alloc ?_ (by simp <;> omega) _)), hsz⟩ hR').mono ?_
  rintro e w1 ⟨rfl, hb1⟩
  clear hR'
  have hs1 : Below w.heap.size w w1 := Below.trans (by repeat (first | exact Below.refl _ _ | refine Below.alloc ?_ (by simp <;> omega) _)) (hb1.mono (by simp <;> omega))
  replace Hps := Lib.hid (Hps.out.later hs1)
  replace Hts := Lib.hid (Hts.out.later hs1)
  replace Hms := Lib.hid (Hms.out.later hs1)
  have c_e_0 : w1.cell? ⟨w.heap.size, 0, none⟩ = some (.int .i64 k) := (hb1.cell (by simp <;> omega)).trans (by go_simp)
  have c_e_1 : w1.cell? ⟨w.heap.size, 1, none⟩ = some (.slice pps ps.length cps) := (hb1.cell (by simp <;> omega)).trans (by go_simp)
  have c_e_2 : w1.cell? ⟨w.heap.size, 2, none⟩ = some (.slice pts ts.length cts) := (hb1.cell (by simp <;> omega)).trans (by go_simp)
  have c_e_3 : w1.cell? ⟨w.heap.size, 3, none⟩ = some (.int .i64 b) := (hb1.cell (by simp <;> omega)).trans (by go_simp)
  have c_e_4 : w1.cell? ⟨w.heap.size, 4, none⟩ = some (.int .i64 d) := (hb1.cell (by simp <;> omega)).trans (by go_simp)
  have c_e_5 : w1.cell? ⟨w.heap.size, 5, none⟩ = some (.int .i64 n) := (hb1.cell (by simp <;> omega)).trans (by go_simp)
  have c_e_6 : w1.cell? ⟨w.heap.size, 6, none⟩ = some (.int .i64 e0) := (hb1.cell (by simp <;> omega)).trans (by go_simp)
  have c_e_7 : w1.cell? ⟨w.heap.size, 7, none⟩ = some (.slice pms ms.length cms) := (hb1.cell (by simp <;> omega)).trans (by go_simp)
  have c_e_8 : w1.cell? ⟨w.heap.size, 8, none⟩ = some (.string str) := (hb1.cell (by simp <;> omega)).trans (by go_simp)
  have c_r_0 : w1.cell? ⟨w.heap.size + 1, 0, none⟩ = some (.int .i64 0) := (hb1.cell (by simp <;> omega)).trans (by go_simp)
  have f_r_0 : w1.frozen? ⟨w.heap.size + 1, 0, none⟩ = false := (hb1.frozen (by simp <;> omega)).trans (by go_simp)
  have c_r_1 : w1.cell? ⟨w.heap.size + 1, 1, none⟩ = some (.int .i64 0) := (hb1.cell (by simp <;> omega)).trans (by go_simp)
  have f_r_1 : w1.frozen? ⟨w.heap.size + 1, 1, none⟩ = false := (hb1.frozen (by simp <;> omega)).trans (by go_simp)
  have z_e := World.block_lt_of_cell? _ _ c_e_0
  have z_r := World.block_lt_of_cell? _ _ c_r_0
  have hB1 := below_two hB0 hs1
  clear hB0 hs1 hb1
  go_wp2_with fail
  have hR' := hR.below hB1
  refine (vlen_is HN.out HD.out HE.out _ hR').mono ?_
  rintro e w2 ⟨rfl, hb2⟩
  clear hR'
  have hs2 := hb2
  replace Hps := Lib.hid (Hps.out.later hs2)
  replace Hts := Lib.hid (Hts.out.later hs2)
  replace Hms := Lib.hid (Hms.out.later hs2)
  replace c_e_0 := cell_later hs2 c_e_0
  replace c_e_1 := cell_later hs2 c_e_1
  replace c_e_2 := cell_later hs2 c_e_2
  replace c_e_3 := cell_later hs2 c_e_3
  replace c_e_4 := cell_later hs2 c_e_4
  replace c_e_5 := cell_later hs2 c_e_5
  replace c_e_6 := cell_later hs2 c_e_6
  replace c_e_7 := cell_later hs2 c_e_7
  replace c_e_8 := cell_later hs2 c_e_8
  replace f_r_0 := frozen_later hs2 c_r_0 f_r_0
  replace c_r_0 := cell_later hs2 c_r_0
  replace f_r_1 := frozen_later hs2 c_r_1 f_r_1
  replace c_r_1 := cell_later hs2 c_r_1
  clear z_e
  have z_e := World.block_lt_of_cell? _ _ c_e_0
  clear z_r
  have z_r := World.block_lt_of_cell? _ _ c_r_0
  have hB2 := below_two hB1 hs2
  clear hB1 hs2
  obtain ⟨m0, m1⟩ := put2_of (x := .int .i64 N) (y := .int .i64 D) c_r_0 c_r_1
  go_wp2
  exact bodyPost_ret (v := .tuple #[.agg #[.int .i64 N, .int .i64 D], .int .i64 E]) (by simp [results, Tryd.results52, go_sem, m0, m1]) rfl ⟨rfl, put2_below hB2 (by omega)⟩

/-- Have two events the same in all fields? -/
def sameE (x y : Ev) : Bool := decide (x.ps = y.ps) && (decide (x.ts = y.ts) && (decide (x.ms = y.ms) && (decide (x.k = y.k) && (eqV x.b x.d x.n x.e y.b y.d y.n y.e && decide (x.s = y.s)))))

theorem sameE_iff (x y : Ev) : sameE x y = true ↔ x = y := by
  unfold sameE
  rw [Bool.and_eq_true, Bool.and_eq_true, Bool.and_eq_true, Bool.and_eq_true, Bool.and_eq_true, decide_eq_true_iff, decide_eq_true_iff, decide_eq_true_iff, decide_eq_true_iff, decide_eq_true_iff, eqV_iff]
  constructor
  · rintro ⟨h1, h2, h3, h4, ⟨h5, h6, h7, h8⟩, h9⟩; exact Evt.Ev.ext' h4 h1 h2 h5 h6 h7 h8 h3 h9
  · rintro rfl; exact ⟨rfl, rfl, rfl, rfl, ⟨rfl, rfl, rfl, rfl⟩, rfl⟩

theorem sameE_self (x : Ev) : sameE x x = true := (sameE_iff x x).2 rfl

theorem sameE_comm (x y : Ev) : sameE x y = sameE y x := by
  rw [Bool.eq_iff_iff, sameE_iff, sameE_iff]; exact eq_comm

theorem str_eq {s t : ByteArray} (h : s = t) : (s.toList == t.toList) = true := by rw [h]; simp

theorem str_ne {s t : ByteArray} (h : s ≠ t) : (s.toList == t.toList) = false := by
  rw [ByteArray.toList_eq, ByteArray.toList_eq, beq_eq_false_iff_ne]
  intro e
  exact h (by obtain ⟨a⟩ := s; obtain ⟨b⟩ := t; exact congrArg ByteArray.mk (Array.toList_inj.1 e))

theorem alikeP_is {v u : Value} {xs ys : List P3} {b : Bool} (h : decide (xs = ys) = b) (w : World) (h1 : Pits w v xs) (h2 : Pits w u ys) : Calls Tryd.prog 75 #[v, u] w fun ed w' => ed = .returned (.bool b) ∧ Below w.heap.size w w' := by subst h; exact alikeP_any v u xs ys w h1 h2

theorem alikeB_is {v u : Value} {xs ys : List Bool} {b : Bool} (h : decide (xs = ys) = b) (w : World) (h1 : Bools w v xs) (h2 : Bools w u ys) : Calls Tryd.prog 76 #[v, u] w fun ed w' => ed = .returned (.bool b) ∧ Below w.heap.size w w' := by subst h; exact alikeB_any v u xs ys w h1 h2

theorem alikeI_is {v u : Value} {xs ys : List Int} {b : Bool} (h : decide (xs = ys) = b) (w : World) (h1 : Ints w v xs) (h2 : Ints w u ys) : Calls Tryd.prog 77 #[v, u] w fun ed w' => ed = .returned (.bool b) ∧ Below w.heap.size w w' := by subst h; exact alikeI_any v u xs ys w h1 h2

set_option maxRecDepth 100000 in
set_option maxHeartbeats 4000000 in
theorem esame_0 (x y : Ev) (vp vt vm up ut um : Value) (w : World) (h : EvR w vp vt vm x) (h2 : EvR w up ut um y) (HP : Hid (decide (x.ps = y.ps) = false)) :
    Calls Tryd.prog 48 #[evv x vp vt vm, evv y up ut um] w fun ed w' => ed = .returned (.bool false) ∧ Below w.heap.size w w' := by
  obtain ⟨k, ps, ts, b, d, n, e0, ms, str⟩ := x
  obtain ⟨k', ps', ts', b', d', n', e0', ms', str'⟩ := y
  obtain ⟨hps, hts, hms, hsz⟩ := h
  obtain ⟨hps', hts', hms', hsz'⟩ := h2
  dsimp only at hps hts hms hsz hps' hts' hms' hsz' HP ⊢
  have Hps := Lib.hid hps
  obtain ⟨pps, cps, rfl, lps⟩ := sl_shape hps
  have Hts := Lib.hid hts
  obtain ⟨pts, cts, rfl, lts⟩ := sl_shape hts
  have Hms := Lib.hid hms
  obtain ⟨pms, cms, rfl, lms⟩ := sl_shape hms
  have Hps' := Lib.hid hps'
  obtain ⟨pps', cps', rfl, lps'⟩ := sl_shape hps'
  have Hts' := Lib.hid hts'
  obtain ⟨pts', cts', rfl, lts'⟩ := sl_shape hts'
  have Hms' := Lib.hid hms'
  obtain ⟨pms', cms', rfl, lms'⟩ := sl_shape hms'
  clear hps hts hms hps' hts' hms'
  have hB0 : Below w.heap.size w w := Below.refl _ _
  go_enter Tryd.func48, Tryd.ntmps48
  go_wp2_with fail
  refine (alikeP_is HP.out _ (Hps.out.later (by repeat (first | exact Below.refl _ _ | refine Below.alloc ?_ (by simp <;> omega) _))) (Hps'.out.later (by repeat (first | exact Below.refl _ _ | refine Below.alloc ?_ (by simp <;> omega) _)))).mono ?_
  rintro e w1 ⟨rfl, hb1⟩
  have hs1 : Below w.heap.size w w1 := Below.trans (by repeat (first | exact Below.refl _ _ | refine Below.alloc ?_ (by simp <;> omega) _)) (hb1.mono (by simp <;> omega))
  replace Hps := Lib.hid (Hps.out.later hs1)
  replace Hts := Lib.hid (Hts.out.later hs1)
  replace Hms := Lib.hid (Hms.out.later hs1)
  replace Hps' := Lib.hid (Hps'.out.later hs1)
  replace Hts' := Lib.hid (Hts'.out.later hs1)
  replace Hms' := Lib.hid (Hms'.out.later hs1)
  have c_e_0 : w1.cell? ⟨w.heap.size, 0, none⟩ = some (.int .i64 k) := (hb1.cell (by simp <;> omega)).trans (by go_simp)
  have c_e_1 : w1.cell? ⟨w.heap.size, 1, none⟩ = some (.slice pps ps.length cps) := (hb1.cell (by simp <;> omega)).trans (by go_simp)
  have c_e_2 : w1.cell? ⟨w.heap.size, 2, none⟩ = some (.slice pts ts.length cts) := (hb1.cell (by simp <;> omega)).trans (by go_simp)
  have c_e_3 : w1.cell? ⟨w.heap.size, 3, none⟩ = some (.int .i64 b) := (hb1.cell (by simp <;> omega)).trans (by go_simp)
  have c_e_4 : w1.cell? ⟨w.heap.size, 4, none⟩ = some (.int .i64 d) := (hb1.cell (by simp <;> omega)).trans (by go_simp)
  have c_e_5 : w1.cell? ⟨w.heap.size, 5, none⟩ = some (.int .i64 n) := (hb1.cell (by simp <;> omega)).trans (by go_simp)
  have c_e_6 : w1.cell? ⟨w.heap.size, 6, none⟩ = some (.int .i64 e0) := (hb1.cell (by simp <;> omega)).trans (by go_simp)
  have c_e_7 : w1.cell? ⟨w.heap.size, 7, none⟩ = some (.slice pms ms.length cms) := (hb1.cell (by simp <;> omega)).trans (by go_simp)
  have c_e_8 : w1.cell? ⟨w.heap.size, 8, none⟩ = some (.string str) := (hb1.cell (by simp <;> omega)).trans (by go_simp)
  have c_f_0 : w1.cell? ⟨w.heap.size + 1, 0, none⟩ = some (.int .i64 k') := (hb1.cell (by simp <;> omega)).trans (by go_simp)
  have c_f_1 : w1.cell? ⟨w.heap.size + 1, 1, none⟩ = some (.slice pps' ps'.length cps') := (hb1.cell (by simp <;> omega)).trans (by go_simp)
  have c_f_2 : w1.cell? ⟨w.heap.size + 1, 2, none⟩ = some (.slice pts' ts'.length cts') := (hb1.cell (by simp <;> omega)).trans (by go_simp)
  have c_f_3 : w1.cell? ⟨w.heap.size + 1, 3, none⟩ = some (.int .i64 b') := (hb1.cell (by simp <;> omega)).trans (by go_simp)
  have c_f_4 : w1.cell? ⟨w.heap.size + 1, 4, none⟩ = some (.int .i64 d') := (hb1.cell (by simp <;> omega)).trans (by go_simp)
  have c_f_5 : w1.cell? ⟨w.heap.size + 1, 5, none⟩ = some (.int .i64 n') := (hb1.cell (by simp <;> omega)).trans (by go_simp)
  have c_f_6 : w1.cell? ⟨w.heap.size + 1, 6, none⟩ = some (.int .i64 e0') := (hb1.cell (by simp <;> omega)).trans (by go_simp)
  have c_f_7 : w1.cell? ⟨w.heap.size + 1, 7, none⟩ = some (.slice pms' ms'.length cms') := (hb1.cell (by simp <;> omega)).trans (by go_simp)
  have c_f_8 : w1.cell? ⟨w.heap.size + 1, 8, none⟩ = some (.string str') := (hb1.cell (by simp <;> omega)).trans (by go_simp)
  have z_e := World.block_lt_of_cell? _ _ c_e_0
  have z_f := World.block_lt_of_cell? _ _ c_f_0
  have hB1 := below_two hB0 hs1
  clear hB0 hs1 hb1
  go_wp2
  go_ret
  exact ⟨rfl, hB1⟩

set_option maxRecDepth 100000 in
set_option maxHeartbeats 4000000 in
theorem esame_1 (x y : Ev) (vp vt vm up ut um : Value) (w : World) (h : EvR w vp vt vm x) (h2 : EvR w up ut um y) (HP : Hid (decide (x.ps = y.ps) = true)) (HT : Hid (decide (x.ts = y.ts) = false)) :
    Calls Tryd.prog 48 #[evv x vp vt vm, evv y up ut um] w fun ed w' => ed = .returned (.bool false) ∧ Below w.heap.size w w' := by
  obtain ⟨k, ps, ts, b, d, n, e0, ms, str⟩ := x
  obtain ⟨k', ps', ts', b', d', n', e0', ms', str'⟩ := y
  obtain ⟨hps, hts, hms, hsz⟩ := h
  obtain ⟨hps', hts', hms', hsz'⟩ := h2
  dsimp only at hps hts hms hsz hps' hts' hms' hsz' HP HT ⊢
  have Hps := Lib.hid hps
  obtain ⟨pps, cps, rfl, lps⟩ := sl_shape hps
  have Hts := Lib.hid hts
  obtain ⟨pts, cts, rfl, lts⟩ := sl_shape hts
  have Hms := Lib.hid hms
  obtain ⟨pms, cms, rfl, lms⟩ := sl_shape hms
  have Hps' := Lib.hid hps'
  obtain ⟨pps', cps', rfl, lps'⟩ := sl_shape hps'
  have Hts' := Lib.hid hts'
  obtain ⟨pts', cts', rfl, lts'⟩ := sl_shape hts'
  have Hms' := Lib.hid hms'
  obtain ⟨pms', cms', rfl, lms'⟩ := sl_shape hms'
  clear hps hts hms hps' hts' hms'
  have hB0 : Below w.heap.size w w := Below.refl _ _
  go_enter Tryd.func48, Tryd.ntmps48
  go_wp2_with fail
  refine (alikeP_is HP.out _ (Hps.out.later (by repeat (first | exact Below.refl _ _ | refine Below.alloc ?_ (by simp <;> omega) _))) (Hps'.out.later (by repeat (first | exact Below.refl _ _ | refine Below.alloc ?_ (by simp <;> omega) _)))).mono ?_
  rintro e w1 ⟨rfl, hb1⟩
  have hs1 : Below w.heap.size w w1 := Below.trans (by repeat (first | exact Below.refl _ _ | refine Below.alloc ?_ (by simp <;> omega) _)) (hb1.mono (by simp <;> omega))
  replace Hps := Lib.hid (Hps.out.later hs1)
  replace Hts := Lib.hid (Hts.out.later hs1)
  replace Hms := Lib.hid (Hms.out.later hs1)
  replace Hps' := Lib.hid (Hps'.out.later hs1)
  replace Hts' := Lib.hid (Hts'.out.later hs1)
  replace Hms' := Lib.hid (Hms'.out.later hs1)
  have c_e_0 : w1.cell? ⟨w.heap.size, 0, none⟩ = some (.int .i64 k) := (hb1.cell (by simp <;> omega)).trans (by go_simp)
  have c_e_1 : w1.cell? ⟨w.heap.size, 1, none⟩ = some (.slice pps ps.length cps) := (hb1.cell (by simp <;> omega)).trans (by go_simp)
  have c_e_2 : w1.cell? ⟨w.heap.size, 2, none⟩ = some (.slice pts ts.length cts) := (hb1.cell (by simp <;> omega)).trans (by go_simp)
  have c_e_3 : w1.cell? ⟨w.heap.size, 3, none⟩ = some (.int .i64 b) := (hb1.cell (by simp <;> omega)).trans (by go_simp)
  have c_e_4 : w1.cell? ⟨w.heap.size, 4, none⟩ = some (.int .i64 d) := (hb1.cell (by simp <;> omega)).trans (by go_simp)
  have c_e_5 : w1.cell? ⟨w.heap.size, 5, none⟩ = some (.int .i64 n) := (hb1.cell (by simp <;> omega)).trans (by go_simp)
  have c_e_6 : w1.cell? ⟨w.heap.size, 6, none⟩ = some (.int .i64 e0) := (hb1.cell (by simp <;> omega)).trans (by go_simp)
  have c_e_7 : w1.cell? ⟨w.heap.size, 7, none⟩ = some (.slice pms ms.length cms) := (hb1.cell (by simp <;> omega)).trans (by go_simp)
  have c_e_8 : w1.cell? ⟨w.heap.size, 8, none⟩ = some (.string str) := (hb1.cell (by simp <;> omega)).trans (by go_simp)
  have c_f_0 : w1.cell? ⟨w.heap.size + 1, 0, none⟩ = some (.int .i64 k') := (hb1.cell (by simp <;> omega)).trans (by go_simp)
  have c_f_1 : w1.cell? ⟨w.heap.size + 1, 1, none⟩ = some (.slice pps' ps'.length cps') := (hb1.cell (by simp <;> omega)).trans (by go_simp)
  have c_f_2 : w1.cell? ⟨w.heap.size + 1, 2, none⟩ = some (.slice pts' ts'.length cts') := (hb1.cell (by simp <;> omega)).trans (by go_simp)
  have c_f_3 : w1.cell? ⟨w.heap.size + 1, 3, none⟩ = some (.int .i64 b') := (hb1.cell (by simp <;> omega)).trans (by go_simp)
  have c_f_4 : w1.cell? ⟨w.heap.size + 1, 4, none⟩ = some (.int .i64 d') := (hb1.cell (by simp <;> omega)).trans (by go_simp)
  have c_f_5 : w1.cell? ⟨w.heap.size + 1, 5, none⟩ = some (.int .i64 n') := (hb1.cell (by simp <;> omega)).trans (by go_simp)
  have c_f_6 : w1.cell? ⟨w.heap.size + 1, 6, none⟩ = some (.int .i64 e0') := (hb1.cell (by simp <;> omega)).trans (by go_simp)
  have c_f_7 : w1.cell? ⟨w.heap.size + 1, 7, none⟩ = some (.slice pms' ms'.length cms') := (hb1.cell (by simp <;> omega)).trans (by go_simp)
  have c_f_8 : w1.cell? ⟨w.heap.size + 1, 8, none⟩ = some (.string str') := (hb1.cell (by simp <;> omega)).trans (by go_simp)
  have z_e := World.block_lt_of_cell? _ _ c_e_0
  have z_f := World.block_lt_of_cell? _ _ c_f_0
  have hB1 := below_two hB0 hs1
  clear hB0 hs1 hb1
  go_wp2_with fail
  refine (alikeB_is HT.out _ Hts.out Hts'.out).mono ?_
  rintro e w2 ⟨rfl, hb2⟩
  have hs2 := hb2
  replace Hps := Lib.hid (Hps.out.later hs2)
  replace Hts := Lib.hid (Hts.out.later hs2)
  replace Hms := Lib.hid (Hms.out.later hs2)
  replace Hps' := Lib.hid (Hps'.out.later hs2)
  replace Hts' := Lib.hid (Hts'.out.later hs2)
  replace Hms' := Lib.hid (Hms'.out.later hs2)
  replace c_e_0 := cell_later hs2 c_e_0
  replace c_e_1 := cell_later hs2 c_e_1
  replace c_e_2 := cell_later hs2 c_e_2
  replace c_e_3 := cell_later hs2 c_e_3
  replace c_e_4 := cell_later hs2 c_e_4
  replace c_e_5 := cell_later hs2 c_e_5
  replace c_e_6 := cell_later hs2 c_e_6
  replace c_e_7 := cell_later hs2 c_e_7
  replace c_e_8 := cell_later hs2 c_e_8
  replace c_f_0 := cell_later hs2 c_f_0
  replace c_f_1 := cell_later hs2 c_f_1
  replace c_f_2 := cell_later hs2 c_f_2
  replace c_f_3 := cell_later hs2 c_f_3
  replace c_f_4 := cell_later hs2 c_f_4
  replace c_f_5 := cell_later hs2 c_f_5
  replace c_f_6 := cell_later hs2 c_f_6
  replace c_f_7 := cell_later hs2 c_f_7
  replace c_f_8 := cell_later hs2 c_f_8
  clear z_e
  have z_e := World.block_lt_of_cell? _ _ c_e_0
  clear z_f
  have z_f := World.block_lt_of_cell? _ _ c_f_0
  have hB2 := below_two hB1 hs2
  clear hB1 hs2
  go_wp2
  go_ret
  exact ⟨rfl, hB2⟩

set_option maxRecDepth 100000 in
set_option maxHeartbeats 4000000 in
theorem esame_2 (x y : Ev) (vp vt vm up ut um : Value) (w : World) (h : EvR w vp vt vm x) (h2 : EvR w up ut um y) (HP : Hid (decide (x.ps = y.ps) = true)) (HT : Hid (decide (x.ts = y.ts) = true)) (HM : Hid (decide (x.ms = y.ms) = false)) :
    Calls Tryd.prog 48 #[evv x vp vt vm, evv y up ut um] w fun ed w' => ed = .returned (.bool false) ∧ Below w.heap.size w w' := by
  obtain ⟨k, ps, ts, b, d, n, e0, ms, str⟩ := x
  obtain ⟨k', ps', ts', b', d', n', e0', ms', str'⟩ := y
  obtain ⟨hps, hts, hms, hsz⟩ := h
  obtain ⟨hps', hts', hms', hsz'⟩ := h2
  dsimp only at hps hts hms hsz hps' hts' hms' hsz' HP HT HM ⊢
  have Hps := Lib.hid hps
  obtain ⟨pps, cps, rfl, lps⟩ := sl_shape hps
  have Hts := Lib.hid hts
  obtain ⟨pts, cts, rfl, lts⟩ := sl_shape hts
  have Hms := Lib.hid hms
  obtain ⟨pms, cms, rfl, lms⟩ := sl_shape hms
  have Hps' := Lib.hid hps'
  obtain ⟨pps', cps', rfl, lps'⟩ := sl_shape hps'
  have Hts' := Lib.hid hts'
  obtain ⟨pts', cts', rfl, lts'⟩ := sl_shape hts'
  have Hms' := Lib.hid hms'
  obtain ⟨pms', cms', rfl, lms'⟩ := sl_shape hms'
  clear hps hts hms hps' hts' hms'
  have hB0 : Below w.heap.size w w := Below.refl _ _
  go_enter Tryd.func48, Tryd.ntmps48
  go_wp2_with fail
  refine (alikeP_is HP.out _ (Hps.out.later (by repeat (first | exact Below.refl _ _ | refine Below.alloc ?_ (by simp <;> omega) _))) (Hps'.out.later (by repeat (first | exact Below.refl _ _ | refine Below.alloc ?_ (by simp <;> omega) _)))).mono ?_
  rintro e w1 ⟨rfl, hb1⟩
  have hs1 : Below w.heap.size w w1 := Below.trans (by repeat (first | exact Below.refl _ _ | refine Below.alloc ?_ (by simp <;> omega) _)) (hb1.mono (by simp <;> omega))
  replace Hps := Lib.hid (Hps.out.later hs1)
  replace Hts := Lib.hid (Hts.out.later hs1)
  replace Hms := Lib.hid (Hms.out.later hs1)
  replace Hps' := Lib.hid (Hps'.out.later hs1)
  replace Hts' := Lib.hid (Hts'.out.later hs1)
  replace Hms' := Lib.hid (Hms'.out.later hs1)
  have c_e_0 : w1.cell? ⟨w.heap.size, 0, none⟩ = some (.int .i64 k) := (hb1.cell (by simp <;> omega)).trans (by go_simp)
  have c_e_1 : w1.cell? ⟨w.heap.size, 1, none⟩ = some (.slice pps ps.length cps) := (hb1.cell (by simp <;> omega)).trans (by go_simp)
  have c_e_2 : w1.cell? ⟨w.heap.size, 2, none⟩ = some (.slice pts ts.length cts) := (hb1.cell (by simp <;> omega)).trans (by go_simp)
  have c_e_3 : w1.cell? ⟨w.heap.size, 3, none⟩ = some (.int .i64 b) := (hb1.cell (by simp <;> omega)).trans (by go_simp)
  have c_e_4 : w1.cell? ⟨w.heap.size, 4, none⟩ = some (.int .i64 d) := (hb1.cell (by simp <;> omega)).trans (by go_simp)
  have c_e_5 : w1.cell? ⟨w.heap.size, 5, none⟩ = some (.int .i64 n) := (hb1.cell (by simp <;> omega)).trans (by go_simp)
  have c_e_6 : w1.cell? ⟨w.heap.size, 6, none⟩ = some (.int .i64 e0) := (hb1.cell (by simp <;> omega)).trans (by go_simp)
  have c_e_7 : w1.cell? ⟨w.heap.size, 7, none⟩ = some (.slice pms ms.length cms) := (hb1.cell (by simp <;> omega)).trans (by go_simp)
  have c_e_8 : w1.cell? ⟨w.heap.size, 8, none⟩ = some (.string str) := (hb1.cell (by simp <;> omega)).trans (by go_simp)
  have c_f_0 : w1.cell? ⟨w.heap.size + 1, 0, none⟩ = some (.int .i64 k') := (hb1.cell (by simp <;> omega)).trans (by go_simp)
  have c_f_1 : w1.cell? ⟨w.heap.size + 1, 1, none⟩ = some (.slice pps' ps'.length cps') := (hb1.cell (by simp <;> omega)).trans (by go_simp)
  have c_f_2 : w1.cell? ⟨w.heap.size + 1, 2, none⟩ = some (.slice pts' ts'.length cts') := (hb1.cell (by simp <;> omega)).trans (by go_simp)
  have c_f_3 : w1.cell? ⟨w.heap.size + 1, 3, none⟩ = some (.int .i64 b') := (hb1.cell (by simp <;> omega)).trans (by go_simp)
  have c_f_4 : w1.cell? ⟨w.heap.size + 1, 4, none⟩ = some (.int .i64 d') := (hb1.cell (by simp <;> omega)).trans (by go_simp)
  have c_f_5 : w1.cell? ⟨w.heap.size + 1, 5, none⟩ = some (.int .i64 n') := (hb1.cell (by simp <;> omega)).trans (by go_simp)
  have c_f_6 : w1.cell? ⟨w.heap.size + 1, 6, none⟩ = some (.int .i64 e0') := (hb1.cell (by simp <;> omega)).trans (by go_simp)
  have c_f_7 : w1.cell? ⟨w.heap.size + 1, 7, none⟩ = some (.slice pms' ms'.length cms') := (hb1.cell (by simp <;> omega)).trans (by go_simp)
  have c_f_8 : w1.cell? ⟨w.heap.size + 1, 8, none⟩ = some (.string str') := (hb1.cell (by simp <;> omega)).trans (by go_simp)
  have z_e := World.block_lt_of_cell? _ _ c_e_0
  have z_f := World.block_lt_of_cell? _ _ c_f_0
  have hB1 := below_two hB0 hs1
  clear hB0 hs1 hb1
  go_wp2_with fail
  refine (alikeB_is HT.out _ Hts.out Hts'.out).mono ?_
  rintro e w2 ⟨rfl, hb2⟩
  have hs2 := hb2
  replace Hps := Lib.hid (Hps.out.later hs2)
  replace Hts := Lib.hid (Hts.out.later hs2)
  replace Hms := Lib.hid (Hms.out.later hs2)
  replace Hps' := Lib.hid (Hps'.out.later hs2)
  replace Hts' := Lib.hid (Hts'.out.later hs2)
  replace Hms' := Lib.hid (Hms'.out.later hs2)
  replace c_e_0 := cell_later hs2 c_e_0
  replace c_e_1 := cell_later hs2 c_e_1
  replace c_e_2 := cell_later hs2 c_e_2
  replace c_e_3 := cell_later hs2 c_e_3
  replace c_e_4 := cell_later hs2 c_e_4
  replace c_e_5 := cell_later hs2 c_e_5
  replace c_e_6 := cell_later hs2 c_e_6
  replace c_e_7 := cell_later hs2 c_e_7
  replace c_e_8 := cell_later hs2 c_e_8
  replace c_f_0 := cell_later hs2 c_f_0
  replace c_f_1 := cell_later hs2 c_f_1
  replace c_f_2 := cell_later hs2 c_f_2
  replace c_f_3 := cell_later hs2 c_f_3
  replace c_f_4 := cell_later hs2 c_f_4
  replace c_f_5 := cell_later hs2 c_f_5
  replace c_f_6 := cell_later hs2 c_f_6
  replace c_f_7 := cell_later hs2 c_f_7
  replace c_f_8 := cell_later hs2 c_f_8
  clear z_e
  have z_e := World.block_lt_of_cell? _ _ c_e_0
  clear z_f
  have z_f := World.block_lt_of_cell? _ _ c_f_0
  have hB2 := below_two hB1 hs2
  clear hB1 hs2
  go_wp2_with fail
  refine (alikeI_is HM.out _ Hms.out Hms'.out).mono ?_
  rintro e w3 ⟨rfl, hb3⟩
  have hs3 := hb3
  replace Hps := Lib.hid (Hps.out.later hs3)
  replace Hts := Lib.hid (Hts.out.later hs3)
  replace Hms := Lib.hid (Hms.out.later hs3)
  replace Hps' := Lib.hid (Hps'.out.later hs3)
  replace Hts' := Lib.hid (Hts'.out.later hs3)
  replace Hms' := Lib.hid (Hms'.out.later hs3)
  replace c_e_0 := cell_later hs3 c_e_0
  replace c_e_1 := cell_later hs3 c_e_1
  replace c_e_2 := cell_later hs3 c_e_2
  replace c_e_3 := cell_later hs3 c_e_3
  replace c_e_4 := cell_later hs3 c_e_4
  replace c_e_5 := cell_later hs3 c_e_5
  replace c_e_6 := cell_later hs3 c_e_6
  replace c_e_7 := cell_later hs3 c_e_7
  replace c_e_8 := cell_later hs3 c_e_8
  replace c_f_0 := cell_later hs3 c_f_0
  replace c_f_1 := cell_later hs3 c_f_1
  replace c_f_2 := cell_later hs3 c_f_2
  replace c_f_3 := cell_later hs3 c_f_3
  replace c_f_4 := cell_later hs3 c_f_4
  replace c_f_5 := cell_later hs3 c_f_5
  replace c_f_6 := cell_later hs3 c_f_6
  replace c_f_7 := cell_later hs3 c_f_7
  replace c_f_8 := cell_later hs3 c_f_8
  clear z_e
  have z_e := World.block_lt_of_cell? _ _ c_e_0
  clear z_f
  have z_f := World.block_lt_of_cell? _ _ c_f_0
  have hB3 := below_two hB2 hs3
  clear hB2 hs3
  go_wp2
  go_ret
  exact ⟨rfl, hB3⟩

set_option maxRecDepth 100000 in
set_option maxHeartbeats 4000000 in
theorem esame_3 (x y : Ev) (vp vt vm up ut um : Value) (w : World) (h : EvR w vp vt vm x) (h2 : EvR w up ut um y) (HP : Hid (decide (x.ps = y.ps) = true)) (HT : Hid (decide (x.ts = y.ts) = true)) (HM : Hid (decide (x.ms = y.ms) = true)) (hk : (x.k == y.k) = false) :
    Calls Tryd.prog 48 #[evv x vp vt vm, evv y up ut um] w fun ed w' => ed = .returned (.bool false) ∧ Below w.heap.size w w' := by
  obtain ⟨k, ps, ts, b, d, n, e0, ms, str⟩ := x
  obtain ⟨k', ps', ts', b', d', n', e0', ms', str'⟩ := y
  obtain ⟨hps, hts, hms, hsz⟩ := h
  obtain ⟨hps', hts', hms', hsz'⟩ := h2
  dsimp only at hps hts hms hsz hps' hts' hms' hsz' HP HT HM hk ⊢
  have Hps := Lib.hid hps
  obtain ⟨pps, cps, rfl, lps⟩ := sl_shape hps
  have Hts := Lib.hid hts
  obtain ⟨pts, cts, rfl, lts⟩ := sl_shape hts
  have Hms := Lib.hid hms
  obtain ⟨pms, cms, rfl, lms⟩ := sl_shape hms
  have Hps' := Lib.hid hps'
  obtain ⟨pps', cps', rfl, lps'⟩ := sl_shape hps'
  have Hts' := Lib.hid hts'
  obtain ⟨pts', cts', rfl, lts'⟩ := sl_shape hts'
  have Hms' := Lib.hid hms'
  obtain ⟨pms', cms', rfl, lms'⟩ := sl_shape hms'
  clear hps hts hms hps' hts' hms'
  have hB0 : Below w.heap.size w w := Below.refl _ _
  go_enter Tryd.func48, Tryd.ntmps48
  go_wp2_with fail
  refine (alikeP_is HP.out _ (Hps.out.later (by repeat (first | exact Below.refl _ _ | refine Below.alloc ?_ (by simp <;> omega) _))) (Hps'.out.later (by repeat (first | exact Below.refl _ _ | refine Below.alloc ?_ (by simp <;> omega) _)))).mono ?_
  rintro e w1 ⟨rfl, hb1⟩
  have hs1 : Below w.heap.size w w1 := Below.trans (by repeat (first | exact Below.refl _ _ | refine Below.alloc ?_ (by simp <;> omega) _)) (hb1.mono (by simp <;> omega))
  replace Hps := Lib.hid (Hps.out.later hs1)
  replace Hts := Lib.hid (Hts.out.later hs1)
  replace Hms := Lib.hid (Hms.out.later hs1)
  replace Hps' := Lib.hid (Hps'.out.later hs1)
  replace Hts' := Lib.hid (Hts'.out.later hs1)
  replace Hms' := Lib.hid (Hms'.out.later hs1)
  have c_e_0 : w1.cell? ⟨w.heap.size, 0, none⟩ = some (.int .i64 k) := (hb1.cell (by simp <;> omega)).trans (by go_simp)
  have c_e_1 : w1.cell? ⟨w.heap.size, 1, none⟩ = some (.slice pps ps.length cps) := (hb1.cell (by simp <;> omega)).trans (by go_simp)
  have c_e_2 : w1.cell? ⟨w.heap.size, 2, none⟩ = some (.slice pts ts.length cts) := (hb1.cell (by simp <;> omega)).trans (by go_simp)
  have c_e_3 : w1.cell? ⟨w.heap.size, 3, none⟩ = some (.int .i64 b) := (hb1.cell (by simp <;> omega)).trans (by go_simp)
  have c_e_4 : w1.cell? ⟨w.heap.size, 4, none⟩ = some (.int .i64 d) := (hb1.cell (by simp <;> omega)).trans (by go_simp)
  have c_e_5 : w1.cell? ⟨w.heap.size, 5, none⟩ = some (.int .i64 n) := (hb1.cell (by simp <;> omega)).trans (by go_simp)
  have c_e_6 : w1.cell? ⟨w.heap.size, 6, none⟩ = some (.int .i64 e0) := (hb1.cell (by simp <;> omega)).trans (by go_simp)
  have c_e_7 : w1.cell? ⟨w.heap.size, 7, none⟩ = some (.slice pms ms.length cms) := (hb1.cell (by simp <;> omega)).trans (by go_simp)
  have c_e_8 : w1.cell? ⟨w.heap.size, 8, none⟩ = some (.string str) := (hb1.cell (by simp <;> omega)).trans (by go_simp)
  have c_f_0 : w1.cell? ⟨w.heap.size + 1, 0, none⟩ = some (.int .i64 k') := (hb1.cell (by simp <;> omega)).trans (by go_simp)
  have c_f_1 : w1.cell? ⟨w.heap.size + 1, 1, none⟩ = some (.slice pps' ps'.length cps') := (hb1.cell (by simp <;> omega)).trans (by go_simp)
  have c_f_2 : w1.cell? ⟨w.heap.size + 1, 2, none⟩ = some (.slice pts' ts'.length cts') := (hb1.cell (by simp <;> omega)).trans (by go_simp)
  have c_f_3 : w1.cell? ⟨w.heap.size + 1, 3, none⟩ = some (.int .i64 b') := (hb1.cell (by simp <;> omega)).trans (by go_simp)
  have c_f_4 : w1.cell? ⟨w.heap.size + 1, 4, none⟩ = some (.int .i64 d') := (hb1.cell (by simp <;> omega)).trans (by go_simp)
  have c_f_5 : w1.cell? ⟨w.heap.size + 1, 5, none⟩ = some (.int .i64 n') := (hb1.cell (by simp <;> omega)).trans (by go_simp)
  have c_f_6 : w1.cell? ⟨w.heap.size + 1, 6, none⟩ = some (.int .i64 e0') := (hb1.cell (by simp <;> omega)).trans (by go_simp)
  have c_f_7 : w1.cell? ⟨w.heap.size + 1, 7, none⟩ = some (.slice pms' ms'.length cms') := (hb1.cell (by simp <;> omega)).trans (by go_simp)
  have c_f_8 : w1.cell? ⟨w.heap.size + 1, 8, none⟩ = some (.string str') := (hb1.cell (by simp <;> omega)).trans (by go_simp)
  have z_e := World.block_lt_of_cell? _ _ c_e_0
  have z_f := World.block_lt_of_cell? _ _ c_f_0
  have hB1 := below_two hB0 hs1
  clear hB0 hs1 hb1
  go_wp2_with fail
  refine (alikeB_is HT.out _ Hts.out Hts'.out).mono ?_
  rintro e w2 ⟨rfl, hb2⟩
  have hs2 := hb2
  replace Hps := Lib.hid (Hps.out.later hs2)
  replace Hts := Lib.hid (Hts.out.later hs2)
  replace Hms := Lib.hid (Hms.out.later hs2)
  replace Hps' := Lib.hid (Hps'.out.later hs2)
  replace Hts' := Lib.hid (Hts'.out.later hs2)
  replace Hms' := Lib.hid (Hms'.out.later hs2)
  replace c_e_0 := cell_later hs2 c_e_0
  replace c_e_1 := cell_later hs2 c_e_1
  replace c_e_2 := cell_later hs2 c_e_2
  replace c_e_3 := cell_later hs2 c_e_3
  replace c_e_4 := cell_later hs2 c_e_4
  replace c_e_5 := cell_later hs2 c_e_5
  replace c_e_6 := cell_later hs2 c_e_6
  replace c_e_7 := cell_later hs2 c_e_7
  replace c_e_8 := cell_later hs2 c_e_8
  replace c_f_0 := cell_later hs2 c_f_0
  replace c_f_1 := cell_later hs2 c_f_1
  replace c_f_2 := cell_later hs2 c_f_2
  replace c_f_3 := cell_later hs2 c_f_3
  replace c_f_4 := cell_later hs2 c_f_4
  replace c_f_5 := cell_later hs2 c_f_5
  replace c_f_6 := cell_later hs2 c_f_6
  replace c_f_7 := cell_later hs2 c_f_7
  replace c_f_8 := cell_later hs2 c_f_8
  clear z_e
  have z_e := World.block_lt_of_cell? _ _ c_e_0
  clear z_f
  have z_f := World.block_lt_of_cell? _ _ c_f_0
  have hB2 := below_two hB1 hs2
  clear hB1 hs2
  go_wp2_with fail
  refine (alikeI_is HM.out _ Hms.out Hms'.out).mono ?_
  rintro e w3 ⟨rfl, hb3⟩
  have hs3 := hb3
  replace Hps := Lib.hid (Hps.out.later hs3)
  replace Hts := Lib.hid (Hts.out.later hs3)
  replace Hms := Lib.hid (Hms.out.later hs3)
  replace Hps' := Lib.hid (Hps'.out.later hs3)
  replace Hts' := Lib.hid (Hts'.out.later hs3)
  replace Hms' := Lib.hid (Hms'.out.later hs3)
  replace c_e_0 := cell_later hs3 c_e_0
  replace c_e_1 := cell_later hs3 c_e_1
  replace c_e_2 := cell_later hs3 c_e_2
  replace c_e_3 := cell_later hs3 c_e_3
  replace c_e_4 := cell_later hs3 c_e_4
  replace c_e_5 := cell_later hs3 c_e_5
  replace c_e_6 := cell_later hs3 c_e_6
  replace c_e_7 := cell_later hs3 c_e_7
  replace c_e_8 := cell_later hs3 c_e_8
  replace c_f_0 := cell_later hs3 c_f_0
  replace c_f_1 := cell_later hs3 c_f_1
  replace c_f_2 := cell_later hs3 c_f_2
  replace c_f_3 := cell_later hs3 c_f_3
  replace c_f_4 := cell_later hs3 c_f_4
  replace c_f_5 := cell_later hs3 c_f_5
  replace c_f_6 := cell_later hs3 c_f_6
  replace c_f_7 := cell_later hs3 c_f_7
  replace c_f_8 := cell_later hs3 c_f_8
  clear z_e
  have z_e := World.block_lt_of_cell? _ _ c_e_0
  clear z_f
  have z_f := World.block_lt_of_cell? _ _ c_f_0
  have hB3 := below_two hB2 hs3
  clear hB2 hs3
  go_wp2
  go_ret
  exact ⟨rfl, hB3⟩

set_option maxRecDepth 100000 in
set_option maxHeartbeats 4000000 in
theorem esame_4 (x y : Ev) (vp vt vm up ut um : Value) (w : World) (h : EvR w vp vt vm x) (h2 : EvR w up ut um y) (HP : Hid (decide (x.ps = y.ps) = true)) (HT : Hid (decide (x.ts = y.ts) = true)) (HM : Hid (decide (x.ms = y.ms) = true)) (hk : (x.k == y.k) = true) (hv : eqV x.b x.d x.n x.e y.b y.d y.n y.e = false) :
    Calls Tryd.prog 48 #[evv x vp vt vm, evv y up ut um] w fun ed w' => ed = .returned (.bool false) ∧ Below w.heap.size w w' := by
  obtain ⟨k, ps, ts, b, d, n, e0, ms, str⟩ := x
  obtain ⟨k', ps', ts', b', d', n', e0', ms', str'⟩ := y
  obtain ⟨hps, hts, hms, hsz⟩ := h
  obtain ⟨hps', hts', hms', hsz'⟩ := h2
  dsimp only at hps hts hms hsz hps' hts' hms' hsz' HP HT HM hk hv ⊢
  have Hps := Lib.hid hps
  obtain ⟨pps, cps, rfl, lps⟩ := sl_shape hps
  have Hts := Lib.hid hts
  obtain ⟨pts, cts, rfl, lts⟩ := sl_shape hts
  have Hms := Lib.hid hms
  obtain ⟨pms, cms, rfl, lms⟩ := sl_shape hms
  have Hps' := Lib.hid hps'
  obtain ⟨pps', cps', rfl, lps'⟩ := sl_shape hps'
  have Hts' := Lib.hid hts'
  obtain ⟨pts', cts', rfl, lts'⟩ := sl_shape hts'
  have Hms' := Lib.hid hms'
  obtain ⟨pms', cms', rfl, lms'⟩ := sl_shape hms'
  clear hps hts hms hps' hts' hms'
  have hB0 : Below w.heap.size w w := Below.refl _ _
  go_enter Tryd.func48, Tryd.ntmps48
  go_wp2_with fail
  refine (alikeP_is HP.out _ (Hps.out.later (by repeat (first | exact Below.refl _ _ | refine Below.alloc ?_ (by simp <;> omega) _))) (Hps'.out.later (by repeat (first | exact Below.refl _ _ | refine Below.alloc ?_ (by simp <;> omega) _)))).mono ?_
  rintro e w1 ⟨rfl, hb1⟩
  have hs1 : Below w.heap.size w w1 := Below.trans (by repeat (first | exact Below.refl _ _ | refine Below.alloc ?_ (by simp <;> omega) _)) (hb1.mono (by simp <;> omega))
  replace Hps := Lib.hid (Hps.out.later hs1)
  replace Hts := Lib.hid (Hts.out.later hs1)
  replace Hms := Lib.hid (Hms.out.later hs1)
  replace Hps' := Lib.hid (Hps'.out.later hs1)
  replace Hts' := Lib.hid (Hts'.out.later hs1)
  replace Hms' := Lib.hid (Hms'.out.later hs1)
  have c_e_0 : w1.cell? ⟨w.heap.size, 0, none⟩ = some (.int .i64 k) := (hb1.cell (by simp <;> omega)).trans (by go_simp)
  have c_e_1 : w1.cell? ⟨w.heap.size, 1, none⟩ = some (.slice pps ps.length cps) := (hb1.cell (by simp <;> omega)).trans (by go_simp)
  have c_e_2 : w1.cell? ⟨w.heap.size, 2, none⟩ = some (.slice pts ts.length cts) := (hb1.cell (by simp <;> omega)).trans (by go_simp)
  have c_e_3 : w1.cell? ⟨w.heap.size, 3, none⟩ = some (.int .i64 b) := (hb1.cell (by simp <;> omega)).trans (by go_simp)
  have c_e_4 : w1.cell? ⟨w.heap.size, 4, none⟩ = some (.int .i64 d) := (hb1.cell (by simp <;> omega)).trans (by go_simp)
  have c_e_5 : w1.cell? ⟨w.heap.size, 5, none⟩ = some (.int .i64 n) := (hb1.cell (by simp <;> omega)).trans (by go_simp)
  have c_e_6 : w1.cell? ⟨w.heap.size, 6, none⟩ = some (.int .i64 e0) := (hb1.cell (by simp <;> omega)).trans (by go_simp)
  have c_e_7 : w1.cell? ⟨w.heap.size, 7, none⟩ = some (.slice pms ms.length cms) := (hb1.cell (by simp <;> omega)).trans (by go_simp)
  have c_e_8 : w1.cell? ⟨w.heap.size, 8, none⟩ = some (.string str) := (hb1.cell (by simp <;> omega)).trans (by go_simp)
  have c_f_0 : w1.cell? ⟨w.heap.size + 1, 0, none⟩ = some (.int .i64 k') := (hb1.cell (by simp <;> omega)).trans (by go_simp)
  have c_f_1 : w1.cell? ⟨w.heap.size + 1, 1, none⟩ = some (.slice pps' ps'.length cps') := (hb1.cell (by simp <;> omega)).trans (by go_simp)
  have c_f_2 : w1.cell? ⟨w.heap.size + 1, 2, none⟩ = some (.slice pts' ts'.length cts') := (hb1.cell (by simp <;> omega)).trans (by go_simp)
  have c_f_3 : w1.cell? ⟨w.heap.size + 1, 3, none⟩ = some (.int .i64 b') := (hb1.cell (by simp <;> omega)).trans (by go_simp)
  have c_f_4 : w1.cell? ⟨w.heap.size + 1, 4, none⟩ = some (.int .i64 d') := (hb1.cell (by simp <;> omega)).trans (by go_simp)
  have c_f_5 : w1.cell? ⟨w.heap.size + 1, 5, none⟩ = some (.int .i64 n') := (hb1.cell (by simp <;> omega)).trans (by go_simp)
  have c_f_6 : w1.cell? ⟨w.heap.size + 1, 6, none⟩ = some (.int .i64 e0') := (hb1.cell (by simp <;> omega)).trans (by go_simp)
  have c_f_7 : w1.cell? ⟨w.heap.size + 1, 7, none⟩ = some (.slice pms' ms'.length cms') := (hb1.cell (by simp <;> omega)).trans (by go_simp)
  have c_f_8 : w1.cell? ⟨w.heap.size + 1, 8, none⟩ = some (.string str') := (hb1.cell (by simp <;> omega)).trans (by go_simp)
  have z_e := World.block_lt_of_cell? _ _ c_e_0
  have z_f := World.block_lt_of_cell? _ _ c_f_0
  have hB1 := below_two hB0 hs1
  clear hB0 hs1 hb1
  go_wp2_with fail
  refine (alikeB_is HT.out _ Hts.out Hts'.out).mono ?_
  rintro e w2 ⟨rfl, hb2⟩
  have hs2 := hb2
  replace Hps := Lib.hid (Hps.out.later hs2)
  replace Hts := Lib.hid (Hts.out.later hs2)
  replace Hms := Lib.hid (Hms.out.later hs2)
  replace Hps' := Lib.hid (Hps'.out.later hs2)
  replace Hts' := Lib.hid (Hts'.out.later hs2)
  replace Hms' := Lib.hid (Hms'.out.later hs2)
  replace c_e_0 := cell_later hs2 c_e_0
  replace c_e_1 := cell_later hs2 c_e_1
  replace c_e_2 := cell_later hs2 c_e_2
  replace c_e_3 := cell_later hs2 c_e_3
  replace c_e_4 := cell_later hs2 c_e_4
  replace c_e_5 := cell_later hs2 c_e_5
  replace c_e_6 := cell_later hs2 c_e_6
  replace c_e_7 := cell_later hs2 c_e_7
  replace c_e_8 := cell_later hs2 c_e_8
  replace c_f_0 := cell_later hs2 c_f_0
  replace c_f_1 := cell_later hs2 c_f_1
  replace c_f_2 := cell_later hs2 c_f_2
  replace c_f_3 := cell_later hs2 c_f_3
  replace c_f_4 := cell_later hs2 c_f_4
  replace c_f_5 := cell_later hs2 c_f_5
  replace c_f_6 := cell_later hs2 c_f_6
  replace c_f_7 := cell_later hs2 c_f_7
  replace c_f_8 := cell_later hs2 c_f_8
  clear z_e
  have z_e := World.block_lt_of_cell? _ _ c_e_0
  clear z_f
  have z_f := World.block_lt_of_cell? _ _ c_f_0
  have hB2 := below_two hB1 hs2
  clear hB1 hs2
  go_wp2_with fail
  refine (alikeI_is HM.out _ Hms.out Hms'.out).mono ?_
  rintro e w3 ⟨rfl, hb3⟩
  have hs3 := hb3
  replace Hps := Lib.hid (Hps.out.later hs3)
  replace Hts := Lib.hid (Hts.out.later hs3)
  replace Hms := Lib.hid (Hms.out.later hs3)
  replace Hps' := Lib.hid (Hps'.out.later hs3)
  replace Hts' := Lib.hid (Hts'.out.later hs3)
  replace Hms' := Lib.hid (Hms'.out.later hs3)
  replace c_e_0 := cell_later hs3 c_e_0
  replace c_e_1 := cell_later hs3 c_e_1
  replace c_e_2 := cell_later hs3 c_e_2
  replace c_e_3 := cell_later hs3 c_e_3
  replace c_e_4 := cell_later hs3 c_e_4
  replace c_e_5 := cell_later hs3 c_e_5
  replace c_e_6 := cell_later hs3 c_e_6
  replace c_e_7 := cell_later hs3 c_e_7
  replace c_e_8 := cell_later hs3 c_e_8
  replace c_f_0 := cell_later hs3 c_f_0
  replace c_f_1 := cell_later hs3 c_f_1
  replace c_f_2 := cell_later hs3 c_f_2
  replace c_f_3 := cell_later hs3 c_f_3
  replace c_f_4 := cell_later hs3 c_f_4
  replace c_f_5 := cell_later hs3 c_f_5
  replace c_f_6 := cell_later hs3 c_f_6
  replace c_f_7 := cell_later hs3 c_f_7
  replace c_f_8 := cell_later hs3 c_f_8
  clear z_e
  have z_e := World.block_lt_of_cell? _ _ c_e_0
  clear z_f
  have z_f := World.block_lt_of_cell? _ _ c_f_0
  have hB3 := below_two hB2 hs3
  clear hB2 hs3
  have hgV := guardV
  have heV := eql_vl
  go_wp2
  go_ret
  exact ⟨rfl, hB3⟩

set_option maxRecDepth 100000 in
set_option maxHeartbeats 4000000 in
theorem esame_5 (x y : Ev) (vp vt vm up ut um : Value) (w : World) (h : EvR w vp vt vm x) (h2 : EvR w up ut um y) (HP : Hid (decide (x.ps = y.ps) = true)) (HT : Hid (decide (x.ts = y.ts) = true)) (HM : Hid (decide (x.ms = y.ms) = true)) (hk : (x.k == y.k) = true) (hv : eqV x.b x.d x.n x.e y.b y.d y.n y.e = true) (hs : (x.s.toList == y.s.toList) = false) :
    Calls Tryd.prog 48 #[evv x vp vt vm, evv y up ut um] w fun ed w' => ed = .returned (.bool false) ∧ Below w.heap.size w w' := by
  obtain ⟨k, ps, ts, b, d, n, e0, ms, str⟩ := x
  obtain ⟨k', ps', ts', b', d', n', e0', ms', str'⟩ := y
  obtain ⟨hps, hts, hms, hsz⟩ := h
  obtain ⟨hps', hts', hms', hsz'⟩ := h2
  dsimp only at hps hts hms hsz hps' hts' hms' hsz' HP HT HM hk hv hs ⊢
  have Hps := Lib.hid hps
  obtain ⟨pps, cps, rfl, lps⟩ := sl_shape hps
  have Hts := Lib.hid hts
  obtain ⟨pts, cts, rfl, lts⟩ := sl_shape hts
  have Hms := Lib.hid hms
  obtain ⟨pms, cms, rfl, lms⟩ := sl_shape hms
  have Hps' := Lib.hid hps'
  obtain ⟨pps', cps', rfl, lps'⟩ := sl_shape hps'
  have Hts' := Lib.hid hts'
  obtain ⟨pts', cts', rfl, lts'⟩ := sl_shape hts'
  have Hms' := Lib.hid hms'
  obtain ⟨pms', cms', rfl, lms'⟩ := sl_shape hms'
  clear hps hts hms hps' hts' hms'
  have hB0 : Below w.heap.size w w := Below.refl _ _
  go_enter Tryd.func48, Tryd.ntmps48
  go_wp2_with fail
  refine (alikeP_is HP.out _ (Hps.out.later (by repeat (first | exact Below.refl _ _ | refine Below.alloc ?_ (by simp <;> omega) _))) (Hps'.out.later (by repeat (first | exact Below.refl _ _ | refine Below.alloc ?_ (by simp <;> omega) _)))).mono ?_
  rintro e w1 ⟨rfl, hb1⟩
  have hs1 : Below w.heap.size w w1 := Below.trans (by repeat (first | exact Below.refl _ _ | refine Below.alloc ?_ (by simp <;> omega) _)) (hb1.mono (by simp <;> omega))
  replace Hps := Lib.hid (Hps.out.later hs1)
  replace Hts := Lib.hid (Hts.out.later hs1)
  replace Hms := Lib.hid (Hms.out.later hs1)
  replace Hps' := Lib.hid (Hps'.out.later hs1)
  replace Hts' := Lib.hid (Hts'.out.later hs1)
  replace Hms' := Lib.hid (Hms'.out.later hs1)
  have c_e_0 : w1.cell? ⟨w.heap.size, 0, none⟩ = some (.int .i64 k) := (hb1.cell (by simp <;> omega)).trans (by go_simp)
  have c_e_1 : w1.cell? ⟨w.heap.size, 1, none⟩ = some (.slice pps ps.length cps) := (hb1.cell (by simp <;> omega)).trans (by go_simp)
  have c_e_2 : w1.cell? ⟨w.heap.size, 2, none⟩ = some (.slice pts ts.length cts) := (hb1.cell (by simp <;> omega)).trans (by go_simp)
  have c_e_3 : w1.cell? ⟨w.heap.size, 3, none⟩ = some (.int .i64 b) := (hb1.cell (by simp <;> omega)).trans (by go_simp)
  have c_e_4 : w1.cell? ⟨w.heap.size, 4, none⟩ = some (.int .i64 d) := (hb1.cell (by simp <;> omega)).trans (by go_simp)
  have c_e_5 : w1.cell? ⟨w.heap.size, 5, none⟩ = some (.int .i64 n) := (hb1.cell (by simp <;> omega)).trans (by go_simp)
  have c_e_6 : w1.cell? ⟨w.heap.size, 6, none⟩ = some (.int .i64 e0) := (hb1.cell (by simp <;> omega)).trans (by go_simp)
  have c_e_7 : w1.cell? ⟨w.heap.size, 7, none⟩ = some (.slice pms ms.length cms) := (hb1.cell (by simp <;> omega)).trans (by go_simp)
  have c_e_8 : w1.cell? ⟨w.heap.size, 8, none⟩ = some (.string str) := (hb1.cell (by simp <;> omega)).trans (by go_simp)
  have c_f_0 : w1.cell? ⟨w.heap.size + 1, 0, none⟩ = some (.int .i64 k') := (hb1.cell (by simp <;> omega)).trans (by go_simp)
  have c_f_1 : w1.cell? ⟨w.heap.size + 1, 1, none⟩ = some (.slice pps' ps'.length cps') := (hb1.cell (by simp <;> omega)).trans (by go_simp)
  have c_f_2 : w1.cell? ⟨w.heap.size + 1, 2, none⟩ = some (.slice pts' ts'.length cts') := (hb1.cell (by simp <;> omega)).trans (by go_simp)
  have c_f_3 : w1.cell? ⟨w.heap.size + 1, 3, none⟩ = some (.int .i64 b') := (hb1.cell (by simp <;> omega)).trans (by go_simp)
  have c_f_4 : w1.cell? ⟨w.heap.size + 1, 4, none⟩ = some (.int .i64 d') := (hb1.cell (by simp <;> omega)).trans (by go_simp)
  have c_f_5 : w1.cell? ⟨w.heap.size + 1, 5, none⟩ = some (.int .i64 n') := (hb1.cell (by simp <;> omega)).trans (by go_simp)
  have c_f_6 : w1.cell? ⟨w.heap.size + 1, 6, none⟩ = some (.int .i64 e0') := (hb1.cell (by simp <;> omega)).trans (by go_simp)
  have c_f_7 : w1.cell? ⟨w.heap.size + 1, 7, none⟩ = some (.slice pms' ms'.length cms') := (hb1.cell (by simp <;> omega)).trans (by go_simp)
  have c_f_8 : w1.cell? ⟨w.heap.size + 1, 8, none⟩ = some (.string str') := (hb1.cell (by simp <;> omega)).trans (by go_simp)
  have z_e := World.block_lt_of_cell? _ _ c_e_0
  have z_f := World.block_lt_of_cell? _ _ c_f_0
  have hB1 := below_two hB0 hs1
  clear hB0 hs1 hb1
  go_wp2_with fail
  refine (alikeB_is HT.out _ Hts.out Hts'.out).mono ?_
  rintro e w2 ⟨rfl, hb2⟩
  have hs2 := hb2
  replace Hps := Lib.hid (Hps.out.later hs2)
  replace Hts := Lib.hid (Hts.out.later hs2)
  replace Hms := Lib.hid (Hms.out.later hs2)
  replace Hps' := Lib.hid (Hps'.out.later hs2)
  replace Hts' := Lib.hid (Hts'.out.later hs2)
  replace Hms' := Lib.hid (Hms'.out.later hs2)
  replace c_e_0 := cell_later hs2 c_e_0
  replace c_e_1 := cell_later hs2 c_e_1
  replace c_e_2 := cell_later hs2 c_e_2
  replace c_e_3 := cell_later hs2 c_e_3
  replace c_e_4 := cell_later hs2 c_e_4
  replace c_e_5 := cell_later hs2 c_e_5
  replace c_e_6 := cell_later hs2 c_e_6
  replace c_e_7 := cell_later hs2 c_e_7
  replace c_e_8 := cell_later hs2 c_e_8
  replace c_f_0 := cell_later hs2 c_f_0
  replace c_f_1 := cell_later hs2 c_f_1
  replace c_f_2 := cell_later hs2 c_f_2
  replace c_f_3 := cell_later hs2 c_f_3
  replace c_f_4 := cell_later hs2 c_f_4
  replace c_f_5 := cell_later hs2 c_f_5
  replace c_f_6 := cell_later hs2 c_f_6
  replace c_f_7 := cell_later hs2 c_f_7
  replace c_f_8 := cell_later hs2 c_f_8
  clear z_e
  have z_e := World.block_lt_of_cell? _ _ c_e_0
  clear z_f
  have z_f := World.block_lt_of_cell? _ _ c_f_0
  have hB2 := below_two hB1 hs2
  clear hB1 hs2
  go_wp2_with fail
  refine (alikeI_is HM.out _ Hms.out Hms'.out).mono ?_
  rintro e w3 ⟨rfl, hb3⟩
  have hs3 := hb3
  replace Hps := Lib.hid (Hps.out.later hs3)
  replace Hts := Lib.hid (Hts.out.later hs3)
  replace Hms := Lib.hid (Hms.out.later hs3)
  replace Hps' := Lib.hid (Hps'.out.later hs3)
  replace Hts' := Lib.hid (Hts'.out.later hs3)
  replace Hms' := Lib.hid (Hms'.out.later hs3)
  replace c_e_0 := cell_later hs3 c_e_0
  replace c_e_1 := cell_later hs3 c_e_1
  replace c_e_2 := cell_later hs3 c_e_2
  replace c_e_3 := cell_later hs3 c_e_3
  replace c_e_4 := cell_later hs3 c_e_4
  replace c_e_5 := cell_later hs3 c_e_5
  replace c_e_6 := cell_later hs3 c_e_6
  replace c_e_7 := cell_later hs3 c_e_7
  replace c_e_8 := cell_later hs3 c_e_8
  replace c_f_0 := cell_later hs3 c_f_0
  replace c_f_1 := cell_later hs3 c_f_1
  replace c_f_2 := cell_later hs3 c_f_2
  replace c_f_3 := cell_later hs3 c_f_3
  replace c_f_4 := cell_later hs3 c_f_4
  replace c_f_5 := cell_later hs3 c_f_5
  replace c_f_6 := cell_later hs3 c_f_6
  replace c_f_7 := cell_later hs3 c_f_7
  replace c_f_8 := cell_later hs3 c_f_8
  clear z_e
  have z_e := World.block_lt_of_cell? _ _ c_e_0
  clear z_f
  have z_f := World.block_lt_of_cell? _ _ c_f_0
  have hB3 := below_two hB2 hs3
  clear hB2 hs3
  have hgV := guardV
  have heV := eql_vl
  go_wp2
  go_ret
  exact ⟨rfl, hB3⟩

set_option maxRecDepth 100000 in
set_option maxHeartbeats 4000000 in
theorem esame_6 (x y : Ev) (vp vt vm up ut um : Value) (w : World) (h : EvR w vp vt vm x) (h2 : EvR w up ut um y) (HP : Hid (decide (x.ps = y.ps) = true)) (HT : Hid (decide (x.ts = y.ts) = true)) (HM : Hid (decide (x.ms = y.ms) = true)) (hk : (x.k == y.k) = true) (hv : eqV x.b x.d x.n x.e y.b y.d y.n y.e = true) (hs : (x.s.toList == y.s.toList) = true) :
    Calls Tryd.prog 48 #[evv x vp vt vm, evv y up ut um] w fun ed w' => ed = .returned (.bool true) ∧ Below w.heap.size w w' := by
  obtain ⟨k, ps, ts, b, d, n, e0, ms, str⟩ := x
  obtain ⟨k', ps', ts', b', d', n', e0', ms', str'⟩ := y
  obtain ⟨hps, hts, hms, hsz⟩ := h
  obtain ⟨hps', hts', hms', hsz'⟩ := h2
  dsimp only at hps hts hms hsz hps' hts' hms' hsz' HP HT HM hk hv hs ⊢
  have Hps := Lib.hid hps
  obtain ⟨pps, cps, rfl, lps⟩ := sl_shape hps
  have Hts := Lib.hid hts
  obtain ⟨pts, cts, rfl, lts⟩ := sl_shape hts
  have Hms := Lib.hid hms
  obtain ⟨pms, cms, rfl, lms⟩ := sl_shape hms
  have Hps' := Lib.hid hps'
  obtain ⟨pps', cps', rfl, lps'⟩ := sl_shape hps'
  have Hts' := Lib.hid hts'
  obtain ⟨pts', cts', rfl, lts'⟩ := sl_shape hts'
  have Hms' := Lib.hid hms'
  obtain ⟨pms', cms', rfl, lms'⟩ := sl_shape hms'
  clear hps hts hms hps' hts' hms'
  have hB0 : Below w.heap.size w w := Below.refl _ _
  go_enter Tryd.func48, Tryd.ntmps48
  go_wp2_with fail
  refine (alikeP_is HP.out _ (Hps.out.later (by repeat (first | exact Below.refl _ _ | refine Below.alloc ?_ (by simp <;> omega) _))) (Hps'.out.later (by repeat (first | exact Below.refl _ _ | refine Below.alloc ?_ (by simp <;> omega) _)))).mono ?_
  rintro e w1 ⟨rfl, hb1⟩
  have hs1 : Below w.heap.size w w1 := Below.trans (by repeat (first | exact Below.refl _ _ | refine Below.alloc ?_ (by simp <;> omega) _)) (hb1.mono (by simp <;> omega))
  replace Hps := Lib.hid (Hps.out.later hs1)
  replace Hts := Lib.hid (Hts.out.later hs1)
  replace Hms := Lib.hid (Hms.out.later hs1)
  replace Hps' := Lib.hid (Hps'.out.later hs1)
  replace Hts' := Lib.hid (Hts'.out.later hs1)
  replace Hms' := Lib.hid (Hms'.out.later hs1)
  have c_e_0 : w1.cell? ⟨w.heap.size, 0, none⟩ = some (.int .i64 k) := (hb1.cell (by simp <;> omega)).trans (by go_simp)
  have c_e_1 : w1.cell? ⟨w.heap.size, 1, none⟩ = some (.slice pps ps.length cps) := (hb1.cell (by simp <;> omega)).trans (by go_simp)
  have c_e_2 : w1.cell? ⟨w.heap.size, 2, none⟩ = some (.slice pts ts.length cts) := (hb1.cell (by simp <;> omega)).trans (by go_simp)
  have c_e_3 : w1.cell? ⟨w.heap.size, 3, none⟩ = some (.int .i64 b) := (hb1.cell (by simp <;> omega)).trans (by go_simp)
  have c_e_4 : w1.cell? ⟨w.heap.size, 4, none⟩ = some (.int .i64 d) := (hb1.cell (by simp <;> omega)).trans (by go_simp)
  have c_e_5 : w1.cell? ⟨w.heap.size, 5, none⟩ = some (.int .i64 n) := (hb1.cell (by simp <;> omega)).trans (by go_simp)
  have c_e_6 : w1.cell? ⟨w.heap.size, 6, none⟩ = some (.int .i64 e0) := (hb1.cell (by simp <;> omega)).trans (by go_simp)
  have c_e_7 : w1.cell? ⟨w.heap.size, 7, none⟩ = some (.slice pms ms.length cms) := (hb1.cell (by simp <;> omega)).trans (by go_simp)
  have c_e_8 : w1.cell? ⟨w.heap.size, 8, none⟩ = some (.string str) := (hb1.cell (by simp <;> omega)).trans (by go_simp)
  have c_f_0 : w1.cell? ⟨w.heap.size + 1, 0, none⟩ = some (.int .i64 k') := (hb1.cell (by simp <;> omega)).trans (by go_simp)
  have c_f_1 : w1.cell? ⟨w.heap.size + 1, 1, none⟩ = some (.slice pps' ps'.length cps') := (hb1.cell (by simp <;> omega)).trans (by go_simp)
  have c_f_2 : w1.cell? ⟨w.heap.size + 1, 2, none⟩ = some (.slice pts' ts'.length cts') := (hb1.cell (by simp <;> omega)).trans (by go_simp)
  have c_f_3 : w1.cell? ⟨w.heap.size + 1, 3, none⟩ = some (.int .i64 b') := (hb1.cell (by simp <;> omega)).trans (by go_simp)
  have c_f_4 : w1.cell? ⟨w.heap.size + 1, 4, none⟩ = some (.int .i64 d') := (hb1.cell (by simp <;> omega)).trans (by go_simp)
  have c_f_5 : w1.cell? ⟨w.heap.size + 1, 5, none⟩ = some (.int .i64 n') := (hb1.cell (by simp <;> omega)).trans (by go_simp)
  have c_f_6 : w1.cell? ⟨w.heap.size + 1, 6, none⟩ = some (.int .i64 e0') := (hb1.cell (by simp <;> omega)).trans (by go_simp)
  have c_f_7 : w1.cell? ⟨w.heap.size + 1, 7, none⟩ = some (.slice pms' ms'.length cms') := (hb1.cell (by simp <;> omega)).trans (by go_simp)
  have c_f_8 : w1.cell? ⟨w.heap.size + 1, 8, none⟩ = some (.string str') := (hb1.cell (by simp <;> omega)).trans (by go_simp)
  have z_e := World.block_lt_of_cell? _ _ c_e_0
  have z_f := World.block_lt_of_cell? _ _ c_f_0
  have hB1 := below_two hB0 hs1
  clear hB0 hs1 hb1
  go_wp2_with fail
  refine (alikeB_is HT.out _ Hts.out Hts'.out).mono ?_
  rintro e w2 ⟨rfl, hb2⟩
  have hs2 := hb2
  replace Hps := Lib.hid (Hps.out.later hs2)
  replace Hts := Lib.hid (Hts.out.later hs2)
  replace Hms := Lib.hid (Hms.out.later hs2)
  replace Hps' := Lib.hid (Hps'.out.later hs2)
  replace Hts' := Lib.hid (Hts'.out.later hs2)
  replace Hms' := Lib.hid (Hms'.out.later hs2)
  replace c_e_0 := cell_later hs2 c_e_0
  replace c_e_1 := cell_later hs2 c_e_1
  replace c_e_2 := cell_later hs2 c_e_2
  replace c_e_3 := cell_later hs2 c_e_3
  replace c_e_4 := cell_later hs2 c_e_4
  replace c_e_5 := cell_later hs2 c_e_5
  replace c_e_6 := cell_later hs2 c_e_6
  replace c_e_7 := cell_later hs2 c_e_7
  replace c_e_8 := cell_later hs2 c_e_8
  replace c_f_0 := cell_later hs2 c_f_0
  replace c_f_1 := cell_later hs2 c_f_1
  replace c_f_2 := cell_later hs2 c_f_2
  replace c_f_3 := cell_later hs2 c_f_3
  replace c_f_4 := cell_later hs2 c_f_4
  replace c_f_5 := cell_later hs2 c_f_5
  replace c_f_6 := cell_later hs2 c_f_6
  replace c_f_7 := cell_later hs2 c_f_7
  replace c_f_8 := cell_later hs2 c_f_8
  clear z_e
  have z_e := World.block_lt_of_cell? _ _ c_e_0
  clear z_f
  have z_f := World.block_lt_of_cell? _ _ c_f_0
  have hB2 := below_two hB1 hs2
  clear hB1 hs2
  go_wp2_with fail
  refine (alikeI_is HM.out _ Hms.out Hms'.out).mono ?_
  rintro e w3 ⟨rfl, hb3⟩
  have hs3 := hb3
  replace Hps := Lib.hid (Hps.out.later hs3)
  replace Hts := Lib.hid (Hts.out.later hs3)
  replace Hms := Lib.hid (Hms.out.later hs3)
  replace Hps' := Lib.hid (Hps'.out.later hs3)
  replace Hts' := Lib.hid (Hts'.out.later hs3)
  replace Hms' := Lib.hid (Hms'.out.later hs3)
  replace c_e_0 := cell_later hs3 c_e_0
  replace c_e_1 := cell_later hs3 c_e_1
  replace c_e_2 := cell_later hs3 c_e_2
  replace c_e_3 := cell_later hs3 c_e_3
  replace c_e_4 := cell_later hs3 c_e_4
  replace c_e_5 := cell_later hs3 c_e_5
  replace c_e_6 := cell_later hs3 c_e_6
  replace c_e_7 := cell_later hs3 c_e_7
  replace c_e_8 := cell_later hs3 c_e_8
  replace c_f_0 := cell_later hs3 c_f_0
  replace c_f_1 := cell_later hs3 c_f_1
  replace c_f_2 := cell_later hs3 c_f_2
  replace c_f_3 := cell_later hs3 c_f_3
  replace c_f_4 := cell_later hs3 c_f_4
  replace c_f_5 := cell_later hs3 c_f_5
  replace c_f_6 := cell_later hs3 c_f_6
  replace c_f_7 := cell_later hs3 c_f_7
  replace c_f_8 := cell_later hs3 c_f_8
  clear z_e
  have z_e := World.block_lt_of_cell? _ _ c_e_0
  clear z_f
  have z_f := World.block_lt_of_cell? _ _ c_f_0
  have hB3 := below_two hB2 hs3
  clear hB2 hs3
  have hgV := guardV
  have heV := eql_vl
  go_wp2
  go_ret
  exact ⟨rfl, hB3⟩

theorem esame_any (x y : Ev) (vp vt vm up ut um : Value) (w : World) (h : EvR w vp vt vm x) (h2 : EvR w up ut um y) : Calls Tryd.prog 48 #[evv x vp vt vm, evv y up ut um] w fun ed w' => ed = .returned (.bool (sameE x y)) ∧ Below w.heap.size w w' := by
  unfold sameE
  cases hp : decide (x.ps = y.ps)
  · exact esame_0 x y _ _ _ _ _ _ w h h2 (Lib.hid hp)
  cases ht : decide (x.ts = y.ts)
  · exact esame_1 x y _ _ _ _ _ _ w h h2 (Lib.hid hp) (Lib.hid ht)
  cases hm : decide (x.ms = y.ms)
  · exact esame_2 x y _ _ _ _ _ _ w h h2 (Lib.hid hp) (Lib.hid ht) (Lib.hid hm)
  by_cases hk : x.k = y.k
  case neg => rw [decide_eq_false hk]; exact esame_3 x y _ _ _ _ _ _ w h h2 (Lib.hid hp) (Lib.hid ht) (Lib.hid hm) (by simpa using hk)
  case pos =>
  rw [decide_eq_true hk]
  have hk' : (x.k == y.k) = true := by simpa using hk
  cases hv : eqV x.b x.d x.n x.e y.b y.d y.n y.e
  · exact esame_4 x y _ _ _ _ _ _ w h h2 (Lib.hid hp) (Lib.hid ht) (Lib.hid hm) hk' hv
  by_cases hs : x.s = y.s
  · rw [decide_eq_true hs]; exact esame_6 x y _ _ _ _ _ _ w h h2 (Lib.hid hp) (Lib.hid ht) (Lib.hid hm) hk' hv (str_eq hs)
  · rw [decide_eq_false hs]; exact esame_5 x y _ _ _ _ _ _ w h h2 (Lib.hid hp) (Lib.hid ht) (Lib.hid hm) hk' hv (str_ne hs)

theorem esame_is {x y : Ev} {q : Bool} (hq : sameE x y = q) (vp vt vm up ut um : Value) (w : World) (h : EvR w vp vt vm x) (h2 : EvR w up ut um y) : Calls Tryd.prog 48 #[evv x vp vt vm, evv y up ut um] w fun ed w' => ed = .returned (.bool q) ∧ Below w.heap.size w w' := by subst hq; exact esame_any x y _ _ _ _ _ _ w h h2

theorem EvR.zero (w : World) : EvR w (.slice none 0 0) (.slice none 0 0) (.slice none 0 0) Evt.zero := ⟨Sl.none _ _ _, Sl.none _ _ _, Sl.none _ _ _, by show (0 : Nat) ≤ _; omega⟩

/-- An event and its lists' values. -/
abbrev EM := Ev × Value × Value × Value

def encE (y : EM) : List Value := [.int .i64 y.1.k, y.2.1, y.2.2.1, .int .i64 y.1.b, .int .i64 y.1.d, .int .i64 y.1.n, .int .i64 y.1.e, y.2.2.2, .string y.1.s]

/-- A list of events in memory. -/
structure Evs (W : World) (v : Value) (l : List EM) : Prop where
  row : Sl 9 encE W v l
  each : ∀ y ∈ l, EvR W y.2.1 y.2.2.1 y.2.2.2 y.1

theorem Evs.later {W W' : World} {v : Value} {l : List EM} (h : Evs W v l) (hb : Below W.heap.size W W') : Evs W' v l := ⟨h.row.later hb, fun y hy => (h.each y hy).later hb⟩

theorem evs_at {W : World} {p : Option Addr} {n c : Nat} {l : List EM} (h : Evs W (.slice p n c) l) {i : Nat} {y : EM} (hy : l[i]? = some y) : ∃ b o, p = some ⟨b, o, .none⟩ ∧ W.cell? ⟨b, o + i * 9, none⟩ = some (.int .i64 y.1.k) ∧ W.cell? ⟨b, o + i * 9 + 1, none⟩ = some y.2.1 ∧ W.cell? ⟨b, o + i * 9 + 2, none⟩ = some y.2.2.1 ∧ W.cell? ⟨b, o + i * 9 + 3, none⟩ = some (.int .i64 y.1.b) ∧ W.cell? ⟨b, o + i * 9 + 4, none⟩ = some (.int .i64 y.1.d) ∧ W.cell? ⟨b, o + i * 9 + 5, none⟩ = some (.int .i64 y.1.n) ∧ W.cell? ⟨b, o + i * 9 + 6, none⟩ = some (.int .i64 y.1.e) ∧ W.cell? ⟨b, o + i * 9 + 7, none⟩ = some y.2.2.2 ∧ W.cell? ⟨b, o + i * 9 + 8, none⟩ = some (.string y.1.s) := by
  obtain ⟨p', c', e, _, _, hc⟩ := h.row
  cases e
  obtain ⟨b, o, e, hc⟩ := hc i y hy
  exact ⟨b, o, e, hc 0 _ rfl, hc 1 _ rfl, hc 2 _ rfl, hc 3 _ rfl, hc 4 _ rfl, hc 5 _ rfl, hc 6 _ rfl, hc 7 _ rfl, hc 8 _ rfl⟩

theorem evs_shape {W : World} {y : EM} (h : EvR W y.2.1 y.2.2.1 y.2.2.2 y.1) : ∃ p1 c1 p2 c2 p3 c3, y = (y.1, .slice p1 y.1.ps.length c1, .slice p2 y.1.ts.length c2, .slice p3 y.1.ms.length c3) := by
  obtain ⟨x, vp, vt, vm⟩ := y
  dsimp only at *
  obtain ⟨p1, c1, rfl, _⟩ := sl_shape h.ps
  obtain ⟨p2, c2, rfl, _⟩ := sl_shape h.ts
  obtain ⟨p3, c3, rfl, _⟩ := sl_shape h.ms
  exact ⟨p1, c1, p2, c2, p3, c3, rfl⟩

def AllE (f : EM → Bool) (ys : List EM) (w : World) (i : Value) (wr : World) : Prop := ∃ k : Nat, k ≤ ys.length ∧ i = .int .i64 (k : Int) ∧ (ys.take k).all f = true ∧ Below w.heap.size w wr

/-- The array of marks: those of S are set. -/
structure Set5 (W : World) (B : Nat) (S : List Int) : Prop where
  at_ : ∀ j : Nat, j < 5 → W.cell? ⟨B, j, none⟩ = some (.bool (S.contains (j : Int)))
  frz : ∀ j : Nat, j < 5 → W.frozen? ⟨B, j, none⟩ = false

theorem Set5.later {W W' : World} {B : Nat} {S : List Int} (h : Set5 W B S) (hb : Below W.heap.size W W') : Set5 W' B S := ⟨fun j hj => cell_later hb (h.at_ j hj), fun j hj => frozen_later hb (h.at_ j hj) (h.frz j hj)⟩

/-- A slice that lies in a block that is there, or is nil. -/
def Inn (W : World) (v : Value) : Prop := ∀ g, v.ownBlock = some g → g < W.heap.size

theorem Sl.set_ne {α : Type} {k : Nat} {enc : α → List Value} {W : World} {v : Value} {l : List α} {B o : Nat} {x : Value} (h : Sl k enc W v l) (ho : v.ownBlock ≠ some B) : Sl k enc (W.setCell ⟨B, o, .none⟩ x) v l := by
  obtain ⟨p, cap, rfl, hl, hc, hx⟩ := h
  refine ⟨p, cap, rfl, hl, hc, fun i y hi => ?_⟩
  obtain ⟨b, q, e, c⟩ := hx i y hi
  subst e
  refine ⟨b, q, rfl, fun j u hu => ?_⟩
  exact set_far (fun e => ho (by rw [e]; rfl)) (c j u hu)

theorem pLaid : laidOutB Tryd.prog = true := by kernel_rfl

theorem keyedP : Keyed Tryd.prog 41 := Keyed.of_law (deep_law_laid pLaid (m := 2) (by omega) (of_decide_eq_true (by kernel_rfl)) (by kernel_rfl) (by rw [Tryd.underlying41]))

/-- What a pitch reads as, as a key. -/
def kl (p : P3) : Lit := .string (keyBytes [.int .i64 p.1, .int .i64 p.2.1, .int .i64 p.2.2])

def sOf : Option Lit → Option (List UInt8)
  | some (.string b) => some b
  | _ => none

theorem sOf_some {x : Option Lit} {b : List UInt8} (h : sOf x = some b) : x = some (.string b) := by
  unfold sOf at h
  split at h
  · cases h; rfl
  · cases h

theorem keyP_is : ∀ (i : Fin 7) (j : Fin 5) (k : Fin 11), sOf (keyOf Tryd.prog 41 (pt (i.val : Int) ((j.val : Int) - 2) ((k.val : Int) - 1))) = some (keyBytes [.int .i64 (i.val : Int), .int .i64 ((j.val : Int) - 2), .int .i64 ((k.val : Int) - 1)]) := by decide +kernel

theorem key_of {p : P3} (h : Evt.rgt p = true) : keyOf Tryd.prog 41 (pt p.1 p.2.1 p.2.2) = some (kl p) := by
  obtain ⟨h0, h1, h2, h3, h4, h5, _⟩ := ((Pit.right_iff _ _ _).1 h).all
  have := keyP_is ⟨p.1.toNat, by omega⟩ ⟨(p.2.1 + 2).toNat, by omega⟩ ⟨(p.2.2 + 1).toNat, by omega⟩
  simp only at this
  rw [show ((p.1.toNat : Nat) : Int) = p.1 by omega, show (((p.2.1 + 2).toNat : Nat) : Int) - 2 = p.2.1 by omega, show (((p.2.2 + 1).toNat : Nat) : Int) - 1 = p.2.2 by omega] at this
  exact sOf_some this

theorem kl_inj {p q : P3} (hp : Evt.rgt p = true) (hq : Evt.rgt q = true) (h : kl p = kl q) : p = q := by
  have e := keyedP.inj (key_of hp) (h ▸ key_of hq)
  simp only [pt, Value.agg.injEq, Array.mk.injEq, List.cons.injEq, Value.int.injEq, true_and, and_true] at e
  exact Prod.ext e.1 (Prod.ext e.2.1 e.2.2)

theorem kl_ne {p q : P3} (hp : Evt.rgt p = true) (hq : Evt.rgt q = true) (h : p ≠ q) : kl p ≠ kl q := fun e => h (kl_inj hp hq e)

theorem kl_key {p : P3} (h : Evt.rgt p = true) : WideAt.IsKeyLit (kl p) := keyedP.key (key_of h)

abbrev DU := DataW Unit

def tB (b : Bool) : DU := .lit (.bool b)

theorem tB_inj {a b : Bool} (h : tB a = tB b) : a = b := by unfold tB at h; cases h; rfl

theorem bool_invG {P : Program} {e : TypeId} (he : P.underlying e = some .bool) {v : Value} {z : DU × List MemPlace} (h : plainElem P e v = some z) : ∃ x, v = .bool x ∧ z = (tB x, []) := by
  unfold plainElem at h
  rw [he] at h
  cases v <;> simp at h
  subst h
  exact ⟨_, rfl, rfl⟩

theorem bool_inv {v : Value} {z : DU × List MemPlace} (h : plainElem Tryd.prog 4 v = some z) : ∃ x, v = .bool x ∧ z = (tB x, []) := bool_invG Tryd.underlying4 h

theorem zeroBool (w : World) : (zeroValue 4).run Tryd.prog w = .ok (.bool false) w := by kernel_rfl

theorem storeBool (x : Bool) : plainElem (H := Unit) Tryd.prog 4 (.bool x) = some (tB x, []) := plainElem_bool Tryd.underlying4 x

abbrev OwnsM (w : World) (b n : Nat) (D : DU) : Prop := w.ownsMap Tryd.prog 41 (plainElem Tryd.prog 4) b n D

theorem ownsM_later {w w' : World} {b n : Nat} {D : DU} (h : OwnsM w b n D) (hb : Below w.heap.size w w') : OwnsM w' b n D :=
  h.kept (row := none) ⟨hb.os, hb.tape, hb.output, hb.size, fun k hk _ => hb.block k hk⟩ (by simp)

theorem wpList_look_ok (w : World) {ops : Array Oper} {rest : List Oper} {o : Oper} {a : Act} {Q : Exit → Act → World → Prop} (hg : o.guard = none) (m x : Operand) (t : TypeId) (hop : o.op = Op.lookup t m x true)
    (ht : Tryd.prog.underlying t = some (.map 41 4)) (b n : Nat) (D : DU) (hm : a.eval m = .map (some b)) (hown : OwnsM w b n D) (p : P3) (hp : Evt.rgt p = true) (hx : a.eval x = pt p.1 p.2.1 p.2.2)
    (c hb : Bool) (hat : D.atKey (kl p) (tB false) = tB c) (hhas : Maps.has D (kl p) = hb) (hK : wpList Tryd.prog ops Q rest (a.put o.dst (.tuple #[.bool c, .bool hb])) w) : wpList Tryd.prog ops Q (o :: rest) a w :=
  wpList_lookup_own_ok w hg m x t hop _ _ keyedP ht (plainElem Tryd.prog 4) (zeroBool _) (tB false) [] (storeBool false) b n D hm hown _ (kl p) hx (key_of hp) (fun v ps hv => by
    obtain ⟨y, rfl, hz⟩ := bool_inv hv
    rw [Prod.mk.injEq, hat] at hz
    rw [← tB_inj hz.1, hhas]
    exact hK)

theorem wpList_look (w : World) {ops : Array Oper} {rest : List Oper} {o : Oper} {a : Act} {Q : Exit → Act → World → Prop} (hg : o.guard = none) (m x : Operand) (t : TypeId) (hop : o.op = Op.lookup t m x false)
    (ht : Tryd.prog.underlying t = some (.map 41 4)) (b n : Nat) (D : DU) (hm : a.eval m = .map (some b)) (hown : OwnsM w b n D) (p : P3) (hp : Evt.rgt p = true) (hx : a.eval x = pt p.1 p.2.1 p.2.2)
    (c : Bool) (hat : D.atKey (kl p) (tB false) = tB c) (hK : wpList Tryd.prog ops Q rest (a.put o.dst (.bool c)) w) : wpList Tryd.prog ops Q (o :: rest) a w := by
  refine wpList_plain hg fun K' hK' => ?_
  obtain ⟨v, ps, hrun, hv⟩ := hown.lookup keyedP ht (zeroBool _) (storeBool false) (key_of hp)
  obtain ⟨y, rfl, hz⟩ := bool_inv hv
  rw [Prod.mk.injEq, hat] at hz
  have := tB_inj hz.1
  subst this
  unfold Oper.wp
  simp [execOp, hop, hm, hx, hrun, Result.andThen]
  exact hK' _ _ hK
end Go.Proofs.YtobhmiknlbjmkaaDoor
