/-
  The contracts of what ratio does with two ratios.
-/
import Derived.Test.YtlodhfdikglgoaaRatC
import Derived.Laws.EntriesVeiled
import Derived.Deep.RegionHeld3
import Derived.Deep.RegionWith
namespace Go.Proofs.Ytlodhfdikglgoaa
open Go.RowKit

/-- The two functions of a deed. -/
abbrev deedSum (b : Nat) : Value := .agg #[.func (.func 60) #[] #[.pointer (some ⟨b, 0, none⟩)], .func (.func 61) #[] #[]]
abbrev deedProduct : Value := .agg #[.func (.func 62) #[] #[], .func (.func 63) #[] #[]]
def SumPost (k : Int) (w : World) (e : Ending) (w' : World) : Prop := ∃ b, e = .returned (deedSum b) ∧ w'.cell? ⟨b, 0, none⟩ = some (.int .i64 k) ∧ Below w.heap.size w w'

set_option maxHeartbeats 1000000 in
theorem sum_any (k : Int) (w : World) :
    Calls Try.prog 49 #[.int .i64 k] w (SumPost k w) := by
  go_enter Try.func49, Try.ntmps49
  go_wp2
  refine bodyPost_ret (v := deedSum w.heap.size) (by simp [results, Try.results49, go_sem]) rfl ⟨w.heap.size, rfl, by go_simp, ?_⟩
  (repeat (first | exact Below.refl _ _ | refine below_drewN ?_ _ | refine Below.drew ?_ | refine Below.setCell ?_ (by simp) _ | refine Below.alloc ?_ (by simp) _))
set_option maxHeartbeats 1000000 in
theorem product_any (w : World) :
    Calls Try.prog 50 #[] w fun e w' => e = .returned deedProduct ∧ Below w.heap.size w w' := by
  go_enter Try.func50, Try.ntmps50
  go_wp2
  refine bodyPost_ret (v := deedProduct) (by simp [results, Try.results50, go_sem]) rfl ⟨rfl, ?_⟩
  (repeat (first | exact Below.refl _ _ | refine below_drewN ?_ _ | refine Below.drew ?_ | refine Below.setCell ?_ (by simp) _ | refine Below.alloc ?_ (by simp) _))
/-- What the closures come to, in 64 bits. -/
def sumW (k a b c d : Int) : Int := wrap64 (wrap64 (a * d) + wrap64 (wrap64 (k * c) * b))
def mulW (a b : Int) : Int := wrap64 (a * b)

set_option maxHeartbeats 1000000 in
theorem sum1_any (a b c d k : Int) (p : Nat) (w : World) (hk : w.cell? ⟨p, 0, none⟩ = some (.int .i64 k)) :
    Calls Try.prog 60 #[rt a b, rt c d, .pointer (some ⟨p, 0, none⟩)] w fun e w' => e = .returned (.int .i64 (sumW k a b c d)) ∧ Below w.heap.size w w' := by
  have hp := World.block_lt_of_cell? w _ hk
  go_enter Try.func60, Try.ntmps60
  go_wp2
  go_ret
  exact ⟨rfl, (by repeat (first | exact Below.refl _ _ | refine below_drewN ?_ _ | refine Below.drew ?_ | refine Below.setCell ?_ (by simp) _ | refine Below.alloc ?_ (by simp) _))⟩

set_option maxHeartbeats 1000000 in
theorem sum2_any (a b c d : Int) (w : World) :
    Calls Try.prog 61 #[rt a b, rt c d] w fun e w' => e = .returned (.int .i64 (mulW b d)) ∧ Below w.heap.size w w' := by
  go_enter Try.func61, Try.ntmps61
  go_wp2
  go_ret
  exact ⟨rfl, (by repeat (first | exact Below.refl _ _ | refine below_drewN ?_ _ | refine Below.drew ?_ | refine Below.setCell ?_ (by simp) _ | refine Below.alloc ?_ (by simp) _))⟩

set_option maxHeartbeats 1000000 in
theorem product1_any (a b c d : Int) (w : World) :
    Calls Try.prog 62 #[rt a b, rt c d] w fun e w' => e = .returned (.int .i64 (mulW a c)) ∧ Below w.heap.size w w' := by
  go_enter Try.func62, Try.ntmps62
  go_wp2
  go_ret
  exact ⟨rfl, (by repeat (first | exact Below.refl _ _ | refine below_drewN ?_ _ | refine Below.drew ?_ | refine Below.setCell ?_ (by simp) _ | refine Below.alloc ?_ (by simp) _))⟩

set_option maxHeartbeats 1000000 in
theorem product2_any (a b c d : Int) (w : World) :
    Calls Try.prog 63 #[rt a b, rt c d] w fun e w' => e = .returned (.int .i64 (mulW b d)) ∧ Below w.heap.size w w' := by
  go_enter Try.func63, Try.ntmps63
  go_wp2
  go_ret
  exact ⟨rfl, (by repeat (first | exact Below.refl _ _ | refine below_drewN ?_ _ | refine Below.drew ?_ | refine Below.setCell ?_ (by simp) _ | refine Below.alloc ?_ (by simp) _))⟩

theorem abs_mul_le {a b : Int} (ha : -1000000000 ≤ a ∧ a ≤ 1000000000) (hb : -1000000000 ≤ b ∧ b ≤ 1000000000) : -1000000000000000000 ≤ a * b ∧ a * b ≤ 1000000000000000000 := by
  have h : (a * b).natAbs ≤ 1000000000 * 1000000000 := by rw [Int.natAbs_mul]; exact Nat.mul_le_mul (by omega) (by omega)
  omega
theorem mulW_eq {a b : Int} (ha : -1000000000 ≤ a ∧ a ≤ 1000000000) (hb : -1000000000 ≤ b ∧ b ≤ 1000000000) : mulW a b = a * b := by
  have := abs_mul_le ha hb
  unfold mulW wrap64; omega
theorem sumW_one {a b c d : Int} (ha : -1000000000 ≤ a ∧ a ≤ 1000000000) (hb : -1000000000 ≤ b ∧ b ≤ 1000000000) (hc : -1000000000 ≤ c ∧ c ≤ 1000000000) (hd : -1000000000 ≤ d ∧ d ≤ 1000000000) : sumW 1 a b c d = a * d + c * b := by
  have h1 := abs_mul_le ha hd
  have h2 := abs_mul_le hc hb
  have e1 : wrap64 (1 * c) = c := by unfold wrap64; omega
  unfold sumW; rw [e1]; unfold wrap64; omega
theorem sumW_neg {a b c d : Int} (ha : -1000000000 ≤ a ∧ a ≤ 1000000000) (hb : -1000000000 ≤ b ∧ b ≤ 1000000000) (hc : -1000000000 ≤ c ∧ c ≤ 1000000000) (hd : -1000000000 ≤ d ∧ d ≤ 1000000000) : sumW (-1) a b c d = a * d - c * b := by
  have h1 := abs_mul_le ha hd
  have h2 := abs_mul_le hc hb
  have e1 : wrap64 (-1 * c) = -c := by unfold wrap64; omega
  have e2 : -c * b = -(c * b) := Int.neg_mul _ _
  unfold sumW; rw [e1, e2]; unfold wrap64; omega
theorem i64_wrap64 (n : Int) : Rat.I64 (wrap64 n) := by unfold Rat.I64 wrap64; omega
theorem i64_sumW (k a b c d : Int) : Rat.I64 (sumW k a b c d) := i64_wrap64 _
theorem i64_mulW (a b : Int) : Rat.I64 (mulW a b) := i64_wrap64 _

/-- What a deed answers: ErrRatio, if one of both is not right; else what Of answers. -/
def binE (r : Bool) (n d : Int) : Int := if r then Rat.ofE n d else 10
def binN (r : Bool) (n d : Int) : Int := if r then Rat.ofN n d else 0
def binD (r : Bool) (n d : Int) : Int := if r then Rat.ofD n d else 0

end Go.Proofs.Ytlodhfdikglgoaa
