/-
  Rests of right meters, in plain words: told by looking at each of them.
-/
import Derived.Test.YtobhmiknlbjmkaaDoorVoZ
namespace Go.Proofs.YtobhmiknlbjmkaaDoor
open Go.RowKit
open Evt (P3 Ev)

def mden (b : Nat) : Int := [1, 2, 4, 8, 16, 32, 64].getD b 0
/-- How many parts a number of sixty-fourths has. -/
def nparts (u : Int) : Nat := ((List.range 65).find? fun k => Val.rm u k == 0).getD 0
def mx (n d : Int) : Int := (Met.of n d).1
def my (n d : Int) : Int := (Met.of n d).2
def mi (n d : Int) : Nat := Spl.Val.spK (mx n d) (my n d)
def mu (n d : Int) : Int := Val.uI (mx n d) (my n d) (mi n d)
def mf (n d : Int) : Nat → Spl.Quad := Spl.prt (mu n d) (Val.kN (mi n d)) (Val.kE (mi n d))
def mn (n d : Int) : Nat := nparts (mu n d)
def mys (n d : Int) : List EM := restsL (mf n d) (mn n d)
def restChk (n d : Int) : Bool :=
  Met.right n d [] && (Met.right n d [n] && (decide (mi n d < 4) && (decide (1 ≤ mn n d) && (decide (mn n d ≤ 64) && (decide (Val.rm (mu n d) (mn n d) = 0) && ((List.range (mn n d)).all (fun j => decide (1 ≤ Val.rm (mu n d) j)) && (decide (Voi.chk ((mys n d).map Prod.fst) = (0, 0)) && (decide (Voi.endOf (0, 1) (Voi.spn (mys n d)) = ((mx n d, my n d), 0)) && (decide (Voi.errOf (Voi.spn (mys n d)) = 0) && (Voi.runsOf (Voi.spn (mys n d))).1.isEmpty)))))))))
theorem rest_all : ∀ (a : Fin 32) (b : Fin 7), restChk (1 + (a.val : Int)) (mden b.val) = true := by decide +kernel
structure RestOk (n d x y : Int) (i k : Nat) (ys : List EM) : Prop where
  r0 : Met.right n d [] = true
  r1 : Met.right n d [n] = true
  of : Met.of n d = (x, y)
  i4 : i < 4
  kd : Spl.Val.spK x y = i
  k1 : 1 ≤ k
  k64 : k ≤ 64
  fl : Val.Fills (Val.uI x y i) k
  yq : ys = restsL (Spl.prt (Val.uI x y i) (Val.kN i) (Val.kE i)) k
  ck : Voi.chk (ys.map Prod.fst) = (0, 0)
  en : Voi.endOf (0, 1) (Voi.spn ys) = ((x, y), 0)
  er : Voi.errOf (Voi.spn ys) = 0
  rn : (Voi.runsOf (Voi.spn ys)).1 = []
theorem rest_ok {a b : Int} (ha : 0 ≤ a ∧ a < 32) (hb : 0 ≤ b ∧ b < 7) : RestOk (1 + a) (mden b.toNat) (mx (1 + a) (mden b.toNat)) (my (1 + a) (mden b.toNat)) (mi (1 + a) (mden b.toNat)) (mn (1 + a) (mden b.toNat)) (mys (1 + a) (mden b.toNat)) := by
  have h := rest_all ⟨a.toNat, by omega⟩ ⟨b.toNat, by omega⟩
  dsimp only at h
  rw [show ((a.toNat : Nat) : Int) = a by omega] at h
  generalize 1 + a = n at *
  generalize mden b.toNat = d at *
  unfold restChk at h
  simp only [Bool.and_eq_true, decide_eq_true_eq] at h
  obtain ⟨h1, h2, h3, h4, h5, h6, h7, h8, h9, h10, h11⟩ := h
  exact ⟨h1, h2, rfl, h3, rfl, h4, h5, ⟨h6, fun j hj => by
    have := List.all_eq_true.1 h7 j (List.mem_range.2 hj)
    exact of_decide_eq_true this⟩, rfl, h8, h9, h10, List.isEmpty_iff.1 h11⟩
theorem same_self : ∀ l : List Ev, Voi.same l l = true
  | [] => rfl
  | x :: l => by rw [Voi.same, sameE_self, same_self l]; rfl
/-- Which of n things a raw number speaks of. -/
def pickS (c n : Int) : Int := (if c < 0 then -(c + 1) else c) % n
theorem pickS_bounds (c : Int) {n : Int} (h : 1 ≤ n) : 0 ≤ pickS c n ∧ pickS c n < n := by
  unfold pickS; exact ⟨Int.emod_nonneg _ (by omega), Int.emod_lt_of_pos _ (by omega)⟩
theorem pick_neg {c : Int} (h : Rat.I64 c) (hc : c < 0) : wrap64 (-wrap64 (c + 1)) = -(c + 1) := by unfold Rat.I64 at h; unfold wrap64; omega
theorem pick_in {c : Int} (h : Rat.I64 c) (hc : c < 0) : 0 ≤ -(c + 1) ∧ Rat.I64 (-(c + 1)) := by unfold Rat.I64 at *; omega
theorem mod_walk {x n : Int} (_h : Rat.I64 x) (h0 : 0 ≤ x) (hn : 1 ≤ n) (hn2 : n ≤ 2000001) : wrap64 (x.tmod n) = x % n := by
  rw [Int.tmod_eq_emod_of_nonneg h0]
  have a := Int.emod_nonneg x (show n ≠ 0 by omega)
  have b := Int.emod_lt_of_pos x (show 0 < n by omega)
  unfold wrap64; omega

set_option maxHeartbeats 1000000 in
theorem pick_any (c n : Int) (w : World) (hc : Rat.I64 c) (hn : 1 ≤ n) (hn2 : n ≤ 2000001) :
    Calls Tryd.prog 19 #[.int .i64 c, .int .i64 n] w fun ed w' => ed = .returned (.int .i64 (pickS c n)) ∧ Below w.heap.size w w' := by
  have hz : (n == 0) = false := by simp; omega
  by_cases h : c < 0
  · have hx := pick_neg hc h
    obtain ⟨h0, hI⟩ := pick_in hc h
    have hm := mod_walk hI h0 hn hn2
    have HP : Hid (pickS c n = -(c + 1) % n) := Lib.hid (by unfold pickS; rw [if_pos h])
    generalize -(c + 1) = x at *
    go_enter Tryd.func19, Tryd.ntmps19
    go_wp2
    go_ret
    refine ⟨ret_int ?_, Below.refl _ _⟩
    rw [HP.out]
  · have h0 : 0 ≤ c := by omega
    have hm := mod_walk hc h0 hn hn2
    have HP : Hid (pickS c n = c % n) := Lib.hid (by unfold pickS; rw [if_neg h])
    go_enter Tryd.func19, Tryd.ntmps19
    go_wp2
    go_ret
    refine ⟨ret_int ?_, Below.refl _ _⟩
    rw [HP.out]
theorem pick_is {c n x : Int} (hc : Rat.I64 c) (hn : 1 ≤ n) (hn2 : n ≤ 2000001) (h : pickS c n = x) (w : World) : Calls Tryd.prog 19 #[.int .i64 c, .int .i64 n] w fun ed w' => ed = .returned (.int .i64 x) ∧ Below w.heap.size w w' := by subst h; exact pick_any c n w hc hn hn2
theorem rests_ok {n d x y : Int} {i k : Nat} {ys : List EM} (h : RestOk n d x y i k ys) {gs : List Int} (hg : Met.right n d gs = true) (v : Value) (w : World) (hI : Ints w v gs) (hR : Spl.Vars w) :
    Calls Tryd.prog 20 #[Mtr.mt n d v] w fun ed w' => (∃ p c, ed = .returned (.tuple #[.agg #[.slice p k c], .int .i64 0]) ∧ Evs w' (.slice p k c) ys ∧ Own w.heap.size (.slice p k c)) ∧ Below w.heap.size w w' := by
  refine (rests_is hg h.of h.i4 h.kd h.fl (by have := h.k64; omega) v w hI hR).mono ?_
  rintro e w' ⟨⟨u, rfl, hu, ho⟩, hb⟩
  rw [← h.yq] at hu
  obtain ⟨p, c, rfl, _⟩ := sl_shape hu.row
  have hl : ys.length = k := by rw [h.yq]; unfold restsL; simp
  rw [hl] at hu ho ⊢
  exact ⟨⟨p, c, rfl, hu, ho⟩, hb⟩
theorem mlen_ok {n d x y : Int} {i k : Nat} {ys : List EM} (h : RestOk n d x y i k ys) (v : Value) (w : World) (hI : Ints w v []) : Calls Tryd.prog 21 #[Mtr.mt n d v] w fun ed w' => ed = .returned (rv x y 0) ∧ Below w.heap.size w w' := by
  have h1 := Mtr.mlength_any n d v [] w (mtr_ints hI)
  have e1 : Mtr.lenP n d [] = (x, y) := by unfold Mtr.lenP; rw [h.r0]; exact h.of
  have e2 : Mtr.lenE n d [] = 0 := by unfold Mtr.lenE; rw [h.r0]; rfl
  rw [e1, e2] at h1
  exact h1
theorem rests_kept {n d x y : Int} {i k B o : Nat} {ys : List EM} (h : RestOk n d x y i k ys) {W : World} {v u : Value} {ob : Obj} {base : Nat} (he : Evs W v ys) (ho : Own base v) (hB : B < base) : Evs ((W.setCell ⟨B, o, none⟩ u).alloc ob) v ys := by
  refine Evs.later ⟨he.row.set ho hB, fun z hz => ?_⟩ ((Below.refl _ _).alloc (Nat.le_refl _) _)
  rw [h.yq] at hz
  obtain ⟨t, _, rfl⟩ := List.mem_map.1 hz
  exact ⟨Sl.none _ _ _, Sl.none _ _ _, Sl.none _ _ _, by show (0 : Nat) ≤ _; omega⟩
theorem ints_one {W : World} {B : Nat} {z : Int} (h : W.cell? ⟨B, 0, none⟩ = some (.int .i64 z)) : Ints W (.slice (some ⟨B, 0, none⟩) 1 1) [z] := ⟨_, 1, rfl, by simp, Nat.le_refl _, fun i x hi => ⟨B, 0, rfl, fun j u hu => by
  obtain ⟨rfl, rfl⟩ : i = 0 ∧ x = z := by
    rcases i with _ | i
    · simp at hi; exact ⟨rfl, hi.symm⟩
    · simp at hi
  rcases j with _ | j
  · simp [encI] at hu; subst hu; exact h
  · simp [encI] at hu⟩⟩
theorem rest_kind {n d x y : Int} {i k : Nat} {ys : List EM} (h : RestOk n d x y i k ys) : (∀ z ∈ ys, z.1.k = 0 ∧ Evt.right z.1 = true) ∧ ys.length = k := by
  refine ⟨fun z hz => ⟨?_, ?_⟩, by rw [h.yq]; unfold restsL; simp⟩
  · rw [h.yq] at hz
    obtain ⟨t, _, rfl⟩ := List.mem_map.1 hz
    rfl
  · exact List.all_eq_true.1 (Voi.chk_ok_iff (l := ys.map Prod.fst) (by rw [h.ck])).2.2.1 _ (List.mem_map.2 ⟨_, hz, rfl⟩)
end Go.Proofs.YtobhmiknlbjmkaaDoor
