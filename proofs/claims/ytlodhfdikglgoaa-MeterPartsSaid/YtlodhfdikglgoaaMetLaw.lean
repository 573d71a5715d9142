/-
  What the laws' walks share: Meter by its numbers; beats counted.
-/
import Derived.Test.YtlodhfdikglgoaaMetRow
import Derived.Test.YtlodhfdikglgoaaMetFacts
namespace Go.Proofs.Ytlodhfdikglgoaa
open Go.RowKit
theorem meterL {a b N D : Int} (hN : mkN a = N) (hD : mkD b = D) (v : Value) (gs : List Int) (w : World) (hI : Ints w v gs) (ia : Rat.I64 a) (ib : Rat.I64 b) (hgs : ∀ z ∈ gs, Rat.I64 z) (gr : Bool) :
    Calls Try.prog 11 #[mt a b v, .bool gr] w fun ed w' => (∃ u, ed = .returned (mt N D u) ∧ ∃ l, Ints w' u l ∧ Met.right N D l = true ∧ l.isEmpty = !gr) ∧ Below w.heap.size w w' := by
  subst hN hD; exact meter_any a b v gs w hI ia ib hgs gr
theorem placeL {N D a o : Int} {v : Value} {gs : List Int} {w : World} (hI : Ints w v gs) (hr : Met.right N D gs = true) (ia : Rat.I64 a) (io : Rat.I64 o) {x y : Int} (h : Met.of (mkK N a o) (D * mkS o) = (x, y)) :
    Calls Try.prog 21 #[mt N D v, .int .i64 a, .int .i64 o] w fun ed w' => ed = .returned (rt x y) ∧ Below w.heap.size w w' := by
  have := place_any N D v gs a o w hI hr ia io; rw [h] at this; exact this
theorem ofL {n d x y : Int} (hd1 : 1 ≤ d) (hd2 : d ≤ 1000000000) (hn1 : -1000000000 ≤ n) (hn2 : n ≤ 1000000000) (h : Met.of n d = (x, y)) (w : World) :
    Calls Try.prog 28 #[.int .i64 n, .int .i64 d] w fun ed w' => ed = .returned (rvp (x, y) 0) ∧ Below w.heap.size w w' := by
  have := ofP_any hd1 hd2 hn1 hn2 w; rw [h] at this; exact this
theorem subL {a b c d x y e : Int} (h : Met.sb (a, b) (c, d) = (x, y)) (he : Met.sbE (a, b) (c, d) = e) (w : World) :
    Calls Try.prog 26 #[rt a b, rt c d] w fun ed w' => ed = .returned (rvp (x, y) e) ∧ Below w.heap.size w w' := by
  have := subP (a, b) (c, d) w; rw [h, he] at this; exact this
theorem addL {a b c d x y e : Int} (h : Met.ad (a, b) (c, d) = (x, y)) (he : Met.adE (a, b) (c, d) = e) (w : World) :
    Calls Try.prog 31 #[rt a b, rt c d] w fun ed w' => ed = .returned (rvp (x, y) e) ∧ Below w.heap.size w w' := by
  have := addP (a, b) (c, d) w; rw [h, he] at this; exact this
theorem cmpL {a b c d m : Int} (h : Met.cm (a, b) (c, d) = m) (w : World) :
    Calls Try.prog 32 #[rt a b, rt c d] w fun ed w' => ed = .returned (.int .i64 m) ∧ Below w.heap.size w w' := by
  have := compareP (a, b) (c, d) w; rw [h] at this; exact this
theorem mulL {a b c d x y e : Int} (h : Met.ml (a, b) (c, d) = (x, y)) (he : Met.mlE (a, b) (c, d) = e) (w : World) :
    Calls Try.prog 27 #[rt a b, rt c d] w fun ed w' => ed = .returned (rvp (x, y) e) ∧ Below w.heap.size w w' := by
  have : Calls Try.prog 27 #[rt a b, rt c d] w fun ed w' => ed = .returned (rvp (Met.ml (a, b) (c, d)) (Met.mlE (a, b) (c, d))) ∧ Below w.heap.size w w' := mul_any a b c d w
  rw [h, he] at this; exact this

/-- So many beats lie ahead of the part j. -/
structure HvI (G : List Int) (j k : Nat) : Prop where
  le : k ≤ G.length
  below : ∀ i, i < k → Met.ah G i < (j : Int)
  above : ∀ i, k ≤ i → i < G.length → (j : Int) ≤ Met.ah G i
theorem HvI.step {G : List Int} (hp : ∀ x ∈ G, 1 ≤ x) {j k : Nat} (h : HvI G j k) (hb : ∃ i, i < G.length ∧ Met.ah G i = (j : Int)) : HvI G (j + 1) (k + 1) := by
  obtain ⟨i, hi, e⟩ := hb
  have hki : k ≤ i := by
    rcases Nat.lt_or_ge i k with h1 | h1
    · have := h.below i h1; omega
    · exact h1
  have hik : i = k := by
    rcases Nat.lt_or_ge k i with h1 | h1
    · have h2 := Met.ah_mono hp h1 (by omega)
      have h3 := h.above k (Nat.le_refl _) (by omega)
      omega
    · omega
  subst hik
  refine ⟨by omega, fun m hm => ?_, fun m hm hl => ?_⟩
  · by_cases h1 : m = i
    · subst h1; omega
    · have := h.below m (by omega); omega
  · have := Met.ah_mono hp (show i < m by omega) (by omega); omega
theorem HvI.same {G : List Int} {j k : Nat} (h : HvI G j k) (hb : ∀ i, i < G.length → Met.ah G i ≠ (j : Int)) : HvI G (j + 1) k :=
  ⟨h.le, fun i hi => by have := h.below i hi; omega, fun i hi hl => by have := h.above i hi hl; have := hb i hl; omega⟩
theorem HvI.all {G : List Int} {j k : Nat} (h : HvI G j k) (hb : ∀ i, i < G.length → Met.ah G i < (j : Int)) : k = G.length := by
  rcases Nat.lt_or_ge k G.length with h1 | h1
  · have := h.above k (Nat.le_refl _) h1; have := hb k h1; omega
  · have := h.le; omega
end Go.Proofs.Ytlodhfdikglgoaa
