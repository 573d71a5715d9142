/-
  PitchOrder holds.
-/
import Derived.Test.YtoopchnncjfjoaaDoorPitOrder1
import Derived.Test.YtoopchnncjfjoaaDoorPitOrder2
import Derived.Test.YtoopchnncjfjoaaDoorPitOrder3
namespace Go.Proofs.YtoopchnncjfjoaaDoor
open Go.RowKit

theorem cmp_num {s b o t c p x : Int} (h : Pit.cmp2 (Pit.num s b o) (Pit.num t c p) (Pit.lin s o) (Pit.lin t p) = x) : (x = -1 ∧ (Pit.num s b o < Pit.num t c p ∨ Pit.num s b o = Pit.num t c p ∧ Pit.lin s o < Pit.lin t p)) ∨ (x = 0 ∧ Pit.num s b o = Pit.num t c p ∧ Pit.lin s o = Pit.lin t p) ∨ (x = 1 ∧ (Pit.num t c p < Pit.num s b o ∨ Pit.num s b o = Pit.num t c p ∧ Pit.lin t p < Pit.lin s o)) := by
  rcases Pit.cmp2_cases (Pit.num s b o) (Pit.num t c p) (Pit.lin s o) (Pit.lin t p) with ⟨a, e⟩ | ⟨a, a', e⟩ | ⟨a, e⟩
  · exact Or.inl ⟨by omega, a⟩
  · exact Or.inr (Or.inl ⟨by omega, a, a'⟩)
  · exact Or.inr (Or.inr ⟨by omega, a⟩)
theorem cmpP_yes {s b o t c p : Int} (h1 : Pit.right s b o = true) (h2 : Pit.right t c p = true) : Pit.cmpP (Pit.right s b o && Pit.right t c p) s b o t c p = Pit.cmp2 (Pit.num s b o) (Pit.num t c p) (Pit.lin s o) (Pit.lin t p) := by rw [h1, h2]; rfl
theorem pitchOrder_calls (a1 a2 a3 b1 b2 b3 c1 c2 c3 : Int) (h1 : Pit.I64 a1) (h2 : Pit.I64 a2) (h3 : Pit.I64 a3) (i1 : Pit.I64 b1) (i2 : Pit.I64 b2) (i3 : Pit.I64 b3) (j1 : Pit.I64 c1) (j2 : Pit.I64 c2) (j3 : Pit.I64 c3) (w : World) (hR : Ready w) : LawHolds 8 #[pt a1 a2 a3, pt b1 b2 b3, pt c1 c2 c3] w := by
  obtain ⟨s, b, o, hr, hA⟩ := pitch_fix a1 a2 a3 h1 h2 h3
  obtain ⟨t, c, p, hq, hB⟩ := pitch_fix b1 b2 b3 i1 i2 i3
  obtain ⟨u, d, q, hv, hC⟩ := pitch_fix c1 c2 c3 j1 j2 j3
  have rP := Pit.right_true hr
  have rQ := Pit.right_true hq
  have rV := Pit.right_true hv
  have e1 := cmpP_yes rP rQ
  have e2 := cmpP_yes rQ rV
  have e3 := cmpP_yes rP rV
  have e4 := cmpP_yes rQ rP
  have key : ∀ x y z x' : Int, Pit.cmp2 (Pit.num s b o) (Pit.num t c p) (Pit.lin s o) (Pit.lin t p) = x → Pit.cmp2 (Pit.num t c p) (Pit.num u d q) (Pit.lin t p) (Pit.lin u q) = y → Pit.cmp2 (Pit.num s b o) (Pit.num u d q) (Pit.lin s o) (Pit.lin u q) = z → Pit.cmp2 (Pit.num t c p) (Pit.num s b o) (Pit.lin t p) (Pit.lin s o) = x' → LawHolds 8 #[pt a1 a2 a3, pt b1 b2 b3, pt c1 c2 c3] w := by
    intro x y z x' hx hy hz hx'
    have fx := cmp_num hx
    have fy := cmp_num hy
    have fz := cmp_num hz
    have fw := cmp_num hx'
    rw [hx] at e1
    rw [hy] at e2
    rw [hz] at e3
    rw [hx'] at e4
    clear hx hy hz hx'
    have hne : x ≠ 0 → eqP s b o t c p = false := fun h => by
      cases hc : eqP s b o t c p with
      | false => rfl
      | true =>
        obtain ⟨rfl, rfl, rfl⟩ := (eqP_iff _ _ _ _ _ _).1 hc
        exfalso
        omega
    have heq : x = 0 → eqP s b o t c p = true := fun h => (eqP_iff _ _ _ _ _ _).2 (Pit.tells hr hq (by omega) (by omega))
    rcases fx with ⟨rfl, fx⟩ | ⟨rfl, fx⟩ | ⟨rfl, fx⟩
    · obtain rfl : x' = 1 := by omega
      rcases fy with ⟨rfl, fy⟩ | ⟨rfl, fy⟩ | ⟨rfl, fy⟩
      · obtain rfl : z = -1 := by omega
        exact order_nnn a1 a2 a3 b1 b2 b3 c1 c2 c3 s b o t c p u d q _ _ w hR (Lib.hid hA) (Lib.hid hB) (Lib.hid hC) (Lib.hid rP) (Lib.hid rQ) (Lib.hid rfl) (Lib.hid rfl) (Lib.hid e1) (Lib.hid e2) (Lib.hid e3) (Lib.hid e4) (hne (by decide)) (by omega)
      · obtain rfl : z = -1 := by omega
        exact order_nzn a1 a2 a3 b1 b2 b3 c1 c2 c3 s b o t c p u d q _ _ w hR (Lib.hid hA) (Lib.hid hB) (Lib.hid hC) (Lib.hid rP) (Lib.hid rQ) (Lib.hid rfl) (Lib.hid rfl) (Lib.hid e1) (Lib.hid e2) (Lib.hid e3) (Lib.hid e4) (hne (by decide)) (by omega)
      · rcases fz with ⟨rfl, fz⟩ | ⟨rfl, fz⟩ | ⟨rfl, fz⟩
        · exact order_npn a1 a2 a3 b1 b2 b3 c1 c2 c3 s b o t c p u d q _ _ w hR (Lib.hid hA) (Lib.hid hB) (Lib.hid hC) (Lib.hid rP) (Lib.hid rQ) (Lib.hid rfl) (Lib.hid rfl) (Lib.hid e1) (Lib.hid e2) (Lib.hid e3) (Lib.hid e4) (hne (by decide)) (by omega)
        · exact order_npz a1 a2 a3 b1 b2 b3 c1 c2 c3 s b o t c p u d q _ _ w hR (Lib.hid hA) (Lib.hid hB) (Lib.hid hC) (Lib.hid rP) (Lib.hid rQ) (Lib.hid rfl) (Lib.hid rfl) (Lib.hid e1) (Lib.hid e2) (Lib.hid e3) (Lib.hid e4) (hne (by decide)) (by omega)
        · exact order_npp a1 a2 a3 b1 b2 b3 c1 c2 c3 s b o t c p u d q _ _ w hR (Lib.hid hA) (Lib.hid hB) (Lib.hid hC) (Lib.hid rP) (Lib.hid rQ) (Lib.hid rfl) (Lib.hid rfl) (Lib.hid e1) (Lib.hid e2) (Lib.hid e3) (Lib.hid e4) (hne (by decide)) (by omega)
    · obtain rfl : x' = 0 := by omega
      obtain rfl : z = y := by omega
      have hq0 := heq rfl
      rcases fy with ⟨rfl, fy⟩ | ⟨rfl, fy⟩ | ⟨rfl, fy⟩
      · exact order_znn a1 a2 a3 b1 b2 b3 c1 c2 c3 s b o t c p u d q _ _ w hR (Lib.hid hA) (Lib.hid hB) (Lib.hid hC) (Lib.hid rP) (Lib.hid rQ) (Lib.hid rfl) (Lib.hid rfl) (Lib.hid e1) (Lib.hid e2) (Lib.hid e3) (Lib.hid e4) hq0 (by omega)
      · exact order_zzz a1 a2 a3 b1 b2 b3 c1 c2 c3 s b o t c p u d q _ _ w hR (Lib.hid hA) (Lib.hid hB) (Lib.hid hC) (Lib.hid rP) (Lib.hid rQ) (Lib.hid rfl) (Lib.hid rfl) (Lib.hid e1) (Lib.hid e2) (Lib.hid e3) (Lib.hid e4) hq0 (by omega)
      · exact order_zpp a1 a2 a3 b1 b2 b3 c1 c2 c3 s b o t c p u d q _ _ w hR (Lib.hid hA) (Lib.hid hB) (Lib.hid hC) (Lib.hid rP) (Lib.hid rQ) (Lib.hid rfl) (Lib.hid rfl) (Lib.hid e1) (Lib.hid e2) (Lib.hid e3) (Lib.hid e4) hq0 (by omega)
    · obtain rfl : x' = -1 := by omega
      rcases fy with ⟨rfl, fy⟩ | ⟨rfl, fy⟩ | ⟨rfl, fy⟩
      · rcases fz with ⟨rfl, fz⟩ | ⟨rfl, fz⟩ | ⟨rfl, fz⟩
        · exact order_pnn a1 a2 a3 b1 b2 b3 c1 c2 c3 s b o t c p u d q _ _ w hR (Lib.hid hA) (Lib.hid hB) (Lib.hid hC) (Lib.hid rP) (Lib.hid rQ) (Lib.hid rfl) (Lib.hid rfl) (Lib.hid e1) (Lib.hid e2) (Lib.hid e3) (Lib.hid e4) (hne (by decide)) (by omega)
        · exact order_pnz a1 a2 a3 b1 b2 b3 c1 c2 c3 s b o t c p u d q _ _ w hR (Lib.hid hA) (Lib.hid hB) (Lib.hid hC) (Lib.hid rP) (Lib.hid rQ) (Lib.hid rfl) (Lib.hid rfl) (Lib.hid e1) (Lib.hid e2) (Lib.hid e3) (Lib.hid e4) (hne (by decide)) (by omega)
        · exact order_pnp a1 a2 a3 b1 b2 b3 c1 c2 c3 s b o t c p u d q _ _ w hR (Lib.hid hA) (Lib.hid hB) (Lib.hid hC) (Lib.hid rP) (Lib.hid rQ) (Lib.hid rfl) (Lib.hid rfl) (Lib.hid e1) (Lib.hid e2) (Lib.hid e3) (Lib.hid e4) (hne (by decide)) (by omega)
      · obtain rfl : z = 1 := by omega
        exact order_pzp a1 a2 a3 b1 b2 b3 c1 c2 c3 s b o t c p u d q _ _ w hR (Lib.hid hA) (Lib.hid hB) (Lib.hid hC) (Lib.hid rP) (Lib.hid rQ) (Lib.hid rfl) (Lib.hid rfl) (Lib.hid e1) (Lib.hid e2) (Lib.hid e3) (Lib.hid e4) (hne (by decide)) (by omega)
      · obtain rfl : z = 1 := by omega
        exact order_ppp a1 a2 a3 b1 b2 b3 c1 c2 c3 s b o t c p u d q _ _ w hR (Lib.hid hA) (Lib.hid hB) (Lib.hid hC) (Lib.hid rP) (Lib.hid rQ) (Lib.hid rfl) (Lib.hid rfl) (Lib.hid e1) (Lib.hid e2) (Lib.hid e3) (Lib.hid e4) (hne (by decide)) (by omega)
  exact key _ _ _ _ rfl rfl rfl rfl
end Go.Proofs.YtoopchnncjfjoaaDoor
