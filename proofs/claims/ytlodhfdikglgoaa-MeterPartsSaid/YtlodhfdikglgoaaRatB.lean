/-
  The contracts of ratio.Of and of the reference's Of.
-/
import Derived.Test.YtlodhfdikglgoaaRatA
import Derived.Lib.QuietBelow
namespace Go.Proofs.Ytlodhfdikglgoaa
open Go.RowKit

/-- What Of, Add, Sub, Mul, Div answer. -/
abbrev rv (x y e : Int) : Value := .tuple #[.agg #[.int .i64 x, .int .i64 y], .int .i64 e]

theorem wrap_quo {n g : Nat} (h : U64 n) : IntKind.u64.wrap ((n : Int) / (g : Int)) = (n : Int) / (g : Int) := by
  unfold U64 at h
  have h1 : (n : Int) / (g : Int) = ((n / g : Nat) : Int) := by simp
  have h2 : n / g ≤ n := Nat.div_le_self _ _
  rw [h1]
  generalize n / g = q at *
  rw [IntKind.wrap_u64]; omega
theorem quo_nonneg (n g : Nat) : (0 : Int) ≤ (n : Int) / (g : Int) := Int.ediv_nonneg (by omega) (by omega)

theorem gcd_ne {n d : Int} (hd : d ≠ 0) : Nat.gcd n.natAbs d.natAbs ≠ 0 := by
  have : 0 < Nat.gcd n.natAbs d.natAbs := Nat.gcd_pos_of_pos_right _ (by omega)
  omega

set_option maxHeartbeats 400000 in
theorem of_zero (n : Int) (w : World) :
    Calls Try.prog 28 #[.int .i64 n, .int .i64 0] w fun e w' => e = .returned (rv 0 0 11) ∧ Below w.heap.size w w' := by
  go_enter Try.func28, Try.ntmps28
  go_wp2
  exact bodyPost_ret (v := rv 0 0 11) (by simp [results, Try.results28, go_sem]) rfl ⟨rfl, (by repeat (first | exact Below.refl _ _ | refine below_drewN ?_ _ | refine Below.drew ?_ | refine Below.setCell ?_ (by simp) _ | refine Below.alloc ?_ (by simp) _))⟩

set_option maxHeartbeats 1000000 in
theorem of_big1 (n d : Int) (w : World) (hn : Rat.I64 n) (hd : Rat.I64 d) (h0 : d ≠ 0) (ht : (1000000000 : Int) < (n.natAbs : Int) / ((Nat.gcd n.natAbs d.natAbs : Nat) : Int)) :
    Calls Try.prog 28 #[.int .i64 n, .int .i64 d] w fun e w' => e = .returned (rv 0 0 10) ∧ Below w.heap.size w w' := by
  have hz : ((d : Int) == 0) = false := by simp; omega
  have hG := gcd_ne (n := n) h0
  generalize hGG : Nat.gcd n.natAbs d.natAbs = G at *
  have HG := Lib.hid hGG
  clear hGG
  have hg1 : ((G : Int) == 0) = false := by simp; omega
  have hwt := wrap_quo (g := G) (u64_abs hn)
  have hwb := wrap_quo (g := G) (u64_abs hd)
  have t0 := quo_nonneg n.natAbs G
  have b0 := quo_nonneg d.natAbs G
  generalize ht' : (n.natAbs : Int) / (G : Int) = t at *
  generalize hb' : (d.natAbs : Int) / (G : Int) = b at *
  have hwt2 : IntKind.u64.wrap ((n.natAbs : Int) / (G : Int)) = t := by rw [ht']; exact hwt
  have hwb2 : IntKind.u64.wrap ((d.natAbs : Int) / (G : Int)) = b := by rw [hb']; exact hwb
  clear ht' hb' hwt hwb
  go_enter Try.func28, Try.ntmps28
  go_wp2_with (first
    | (go_at_call 51; refine (magnitude_any _ _ ?_).mono ?_; (first | exact hn | exact hd); rintro e w' ⟨rfl, rfl⟩)
    | (go_at_call 52; refine (divisor_any _ _ _ ?_ ?_).mono ?_; (first | exact u64_abs hn | exact u64_abs hd); (first | exact u64_abs hn | exact u64_abs hd); rintro e w' ⟨rfl, k, rfl⟩; rw [HG.out]))
  go_quiet (fail)
  go_wp2
  exact bodyPost_ret (v := rv 0 0 10) (by simp [results, Try.results28, go_sem]) rfl ⟨rfl, (by repeat (first | exact Below.refl _ _ | refine below_drewN ?_ _ | refine Below.drew ?_ | refine Below.setCell ?_ (by simp) _ | refine Below.alloc ?_ (by simp) _))⟩

set_option maxHeartbeats 1000000 in
theorem of_big2 (n d : Int) (w : World) (hn : Rat.I64 n) (hd : Rat.I64 d) (h0 : d ≠ 0) (ht : (n.natAbs : Int) / ((Nat.gcd n.natAbs d.natAbs : Nat) : Int) ≤ 1000000000) (hb : (1000000000 : Int) < (d.natAbs : Int) / ((Nat.gcd n.natAbs d.natAbs : Nat) : Int)) :
    Calls Try.prog 28 #[.int .i64 n, .int .i64 d] w fun e w' => e = .returned (rv 0 0 10) ∧ Below w.heap.size w w' := by
  have hz : ((d : Int) == 0) = false := by simp; omega
  have hG := gcd_ne (n := n) h0
  generalize hGG : Nat.gcd n.natAbs d.natAbs = G at *
  have HG := Lib.hid hGG
  clear hGG
  have hg1 : ((G : Int) == 0) = false := by simp; omega
  have hwt := wrap_quo (g := G) (u64_abs hn)
  have hwb := wrap_quo (g := G) (u64_abs hd)
  have t0 := quo_nonneg n.natAbs G
  have b0 := quo_nonneg d.natAbs G
  generalize ht' : (n.natAbs : Int) / (G : Int) = t at *
  generalize hb' : (d.natAbs : Int) / (G : Int) = b at *
  have hwt2 : IntKind.u64.wrap ((n.natAbs : Int) / (G : Int)) = t := by rw [ht']; exact hwt
  have hwb2 : IntKind.u64.wrap ((d.natAbs : Int) / (G : Int)) = b := by rw [hb']; exact hwb
  clear ht' hb' hwt hwb
  go_enter Try.func28, Try.ntmps28
  go_wp2_with (first
    | (go_at_call 51; refine (magnitude_any _ _ ?_).mono ?_; (first | exact hn | exact hd); rintro e w' ⟨rfl, rfl⟩)
    | (go_at_call 52; refine (divisor_any _ _ _ ?_ ?_).mono ?_; (first | exact u64_abs hn | exact u64_abs hd); (first | exact u64_abs hn | exact u64_abs hd); rintro e w' ⟨rfl, k, rfl⟩; rw [HG.out]))
  go_quiet (fail)
  go_wp2
  exact bodyPost_ret (v := rv 0 0 10) (by simp [results, Try.results28, go_sem]) rfl ⟨rfl, (by repeat (first | exact Below.refl _ _ | refine below_drewN ?_ _ | refine Below.drew ?_ | refine Below.setCell ?_ (by simp) _ | refine Below.alloc ?_ (by simp) _))⟩

set_option maxHeartbeats 1000000 in
theorem of_np (n d : Int) (w : World) (hn : Rat.I64 n) (hd : Rat.I64 d) (h0 : d ≠ 0) (ht : (n.natAbs : Int) / ((Nat.gcd n.natAbs d.natAbs : Nat) : Int) ≤ 1000000000) (hb : (d.natAbs : Int) / ((Nat.gcd n.natAbs d.natAbs : Nat) : Int) ≤ 1000000000) (s1 : n < 0) (s2 : 0 ≤ d) :
    Calls Try.prog 28 #[.int .i64 n, .int .i64 d] w fun e w' => e = .returned (rv (-((n.natAbs : Int) / ((Nat.gcd n.natAbs d.natAbs : Nat) : Int))) ((d.natAbs : Int) / ((Nat.gcd n.natAbs d.natAbs : Nat) : Int)) 0) ∧ Below w.heap.size w w' := by
  have hz : ((d : Int) == 0) = false := by simp; omega
  have hG := gcd_ne (n := n) h0
  generalize hGG : Nat.gcd n.natAbs d.natAbs = G at *
  have HG := Lib.hid hGG
  clear hGG
  have hg1 : ((G : Int) == 0) = false := by simp; omega
  have hwt := wrap_quo (g := G) (u64_abs hn)
  have hwb := wrap_quo (g := G) (u64_abs hd)
  have t0 := quo_nonneg n.natAbs G
  have b0 := quo_nonneg d.natAbs G
  generalize ht' : (n.natAbs : Int) / (G : Int) = t at *
  generalize hb' : (d.natAbs : Int) / (G : Int) = b at *
  have hwt2 : IntKind.u64.wrap ((n.natAbs : Int) / (G : Int)) = t := by rw [ht']; exact hwt
  have hwb2 : IntKind.u64.wrap ((d.natAbs : Int) / (G : Int)) = b := by rw [hb']; exact hwb
  clear ht' hb' hwt hwb
  have f2 : decide (d < 0) = false := by simp; omega
  go_enter Try.func28, Try.ntmps28
  go_wp2_with (first
    | (go_at_call 51; refine (magnitude_any _ _ ?_).mono ?_; (first | exact hn | exact hd); rintro e w' ⟨rfl, rfl⟩)
    | (go_at_call 52; refine (divisor_any _ _ _ ?_ ?_).mono ?_; (first | exact u64_abs hn | exact u64_abs hd); (first | exact u64_abs hn | exact u64_abs hd); rintro e w' ⟨rfl, k, rfl⟩; rw [HG.out]))
  go_quiet (fail)
  go_wp2
  exact bodyPost_ret (v := rv (-(t)) (b) 0) (by simp [results, Try.results28, go_sem]) rfl ⟨rfl, (by repeat (first | exact Below.refl _ _ | refine below_drewN ?_ _ | refine Below.drew ?_ | refine Below.setCell ?_ (by simp) _ | refine Below.alloc ?_ (by simp) _))⟩

set_option maxHeartbeats 1000000 in
theorem of_pn (n d : Int) (w : World) (hn : Rat.I64 n) (hd : Rat.I64 d) (h0 : d ≠ 0) (ht : (n.natAbs : Int) / ((Nat.gcd n.natAbs d.natAbs : Nat) : Int) ≤ 1000000000) (hb : (d.natAbs : Int) / ((Nat.gcd n.natAbs d.natAbs : Nat) : Int) ≤ 1000000000) (s1 : 0 ≤ n) (s2 : d < 0) :
    Calls Try.prog 28 #[.int .i64 n, .int .i64 d] w fun e w' => e = .returned (rv (-((n.natAbs : Int) / ((Nat.gcd n.natAbs d.natAbs : Nat) : Int))) ((d.natAbs : Int) / ((Nat.gcd n.natAbs d.natAbs : Nat) : Int)) 0) ∧ Below w.heap.size w w' := by
  have hz : ((d : Int) == 0) = false := by simp; omega
  have hG := gcd_ne (n := n) h0
  generalize hGG : Nat.gcd n.natAbs d.natAbs = G at *
  have HG := Lib.hid hGG
  clear hGG
  have hg1 : ((G : Int) == 0) = false := by simp; omega
  have hwt := wrap_quo (g := G) (u64_abs hn)
  have hwb := wrap_quo (g := G) (u64_abs hd)
  have t0 := quo_nonneg n.natAbs G
  have b0 := quo_nonneg d.natAbs G
  generalize ht' : (n.natAbs : Int) / (G : Int) = t at *
  generalize hb' : (d.natAbs : Int) / (G : Int) = b at *
  have hwt2 : IntKind.u64.wrap ((n.natAbs : Int) / (G : Int)) = t := by rw [ht']; exact hwt
  have hwb2 : IntKind.u64.wrap ((d.natAbs : Int) / (G : Int)) = b := by rw [hb']; exact hwb
  clear ht' hb' hwt hwb
  have f1 : decide (n < 0) = false := by simp; omega
  go_enter Try.func28, Try.ntmps28
  go_wp2_with (first
    | (go_at_call 51; refine (magnitude_any _ _ ?_).mono ?_; (first | exact hn | exact hd); rintro e w' ⟨rfl, rfl⟩)
    | (go_at_call 52; refine (divisor_any _ _ _ ?_ ?_).mono ?_; (first | exact u64_abs hn | exact u64_abs hd); (first | exact u64_abs hn | exact u64_abs hd); rintro e w' ⟨rfl, k, rfl⟩; rw [HG.out]))
  go_quiet (fail)
  go_wp2
  exact bodyPost_ret (v := rv (-(t)) (b) 0) (by simp [results, Try.results28, go_sem]) rfl ⟨rfl, (by repeat (first | exact Below.refl _ _ | refine below_drewN ?_ _ | refine Below.drew ?_ | refine Below.setCell ?_ (by simp) _ | refine Below.alloc ?_ (by simp) _))⟩

set_option maxHeartbeats 1000000 in
theorem of_nn (n d : Int) (w : World) (hn : Rat.I64 n) (hd : Rat.I64 d) (h0 : d ≠ 0) (ht : (n.natAbs : Int) / ((Nat.gcd n.natAbs d.natAbs : Nat) : Int) ≤ 1000000000) (hb : (d.natAbs : Int) / ((Nat.gcd n.natAbs d.natAbs : Nat) : Int) ≤ 1000000000) (s1 : n < 0) (s2 : d < 0) :
    Calls Try.prog 28 #[.int .i64 n, .int .i64 d] w fun e w' => e = .returned (rv (((n.natAbs : Int) / ((Nat.gcd n.natAbs d.natAbs : Nat) : Int))) ((d.natAbs : Int) / ((Nat.gcd n.natAbs d.natAbs : Nat) : Int)) 0) ∧ Below w.heap.size w w' := by
  have hz : ((d : Int) == 0) = false := by simp; omega
  have hG := gcd_ne (n := n) h0
  generalize hGG : Nat.gcd n.natAbs d.natAbs = G at *
  have HG := Lib.hid hGG
  clear hGG
  have hg1 : ((G : Int) == 0) = false := by simp; omega
  have hwt := wrap_quo (g := G) (u64_abs hn)
  have hwb := wrap_quo (g := G) (u64_abs hd)
  have t0 := quo_nonneg n.natAbs G
  have b0 := quo_nonneg d.natAbs G
  generalize ht' : (n.natAbs : Int) / (G : Int) = t at *
  generalize hb' : (d.natAbs : Int) / (G : Int) = b at *
  have hwt2 : IntKind.u64.wrap ((n.natAbs : Int) / (G : Int)) = t := by rw [ht']; exact hwt
  have hwb2 : IntKind.u64.wrap ((d.natAbs : Int) / (G : Int)) = b := by rw [hb']; exact hwb
  clear ht' hb' hwt hwb
  go_enter Try.func28, Try.ntmps28
  go_wp2_with (first
    | (go_at_call 51; refine (magnitude_any _ _ ?_).mono ?_; (first | exact hn | exact hd); rintro e w' ⟨rfl, rfl⟩)
    | (go_at_call 52; refine (divisor_any _ _ _ ?_ ?_).mono ?_; (first | exact u64_abs hn | exact u64_abs hd); (first | exact u64_abs hn | exact u64_abs hd); rintro e w' ⟨rfl, k, rfl⟩; rw [HG.out]))
  go_quiet (fail)
  go_wp2
  exact bodyPost_ret (v := rv ((t)) (b) 0) (by simp [results, Try.results28, go_sem]) rfl ⟨rfl, (by repeat (first | exact Below.refl _ _ | refine below_drewN ?_ _ | refine Below.drew ?_ | refine Below.setCell ?_ (by simp) _ | refine Below.alloc ?_ (by simp) _))⟩

set_option maxHeartbeats 1000000 in
theorem of_pp (n d : Int) (w : World) (hn : Rat.I64 n) (hd : Rat.I64 d) (h0 : d ≠ 0) (ht : (n.natAbs : Int) / ((Nat.gcd n.natAbs d.natAbs : Nat) : Int) ≤ 1000000000) (hb : (d.natAbs : Int) / ((Nat.gcd n.natAbs d.natAbs : Nat) : Int) ≤ 1000000000) (s1 : 0 ≤ n) (s2 : 0 ≤ d) :
    Calls Try.prog 28 #[.int .i64 n, .int .i64 d] w fun e w' => e = .returned (rv (((n.natAbs : Int) / ((Nat.gcd n.natAbs d.natAbs : Nat) : Int))) ((d.natAbs : Int) / ((Nat.gcd n.natAbs d.natAbs : Nat) : Int)) 0) ∧ Below w.heap.size w w' := by
  have hz : ((d : Int) == 0) = false := by simp; omega
  have hG := gcd_ne (n := n) h0
  generalize hGG : Nat.gcd n.natAbs d.natAbs = G at *
  have HG := Lib.hid hGG
  clear hGG
  have hg1 : ((G : Int) == 0) = false := by simp; omega
  have hwt := wrap_quo (g := G) (u64_abs hn)
  have hwb := wrap_quo (g := G) (u64_abs hd)
  have t0 := quo_nonneg n.natAbs G
  have b0 := quo_nonneg d.natAbs G
  generalize ht' : (n.natAbs : Int) / (G : Int) = t at *
  generalize hb' : (d.natAbs : Int) / (G : Int) = b at *
  have hwt2 : IntKind.u64.wrap ((n.natAbs : Int) / (G : Int)) = t := by rw [ht']; exact hwt
  have hwb2 : IntKind.u64.wrap ((d.natAbs : Int) / (G : Int)) = b := by rw [hb']; exact hwb
  clear ht' hb' hwt hwb
  have f1 : decide (n < 0) = false := by simp; omega
  have f2 : decide (d < 0) = false := by simp; omega
  go_enter Try.func28, Try.ntmps28
  go_wp2_with (first
    | (go_at_call 51; refine (magnitude_any _ _ ?_).mono ?_; (first | exact hn | exact hd); rintro e w' ⟨rfl, rfl⟩)
    | (go_at_call 52; refine (divisor_any _ _ _ ?_ ?_).mono ?_; (first | exact u64_abs hn | exact u64_abs hd); (first | exact u64_abs hn | exact u64_abs hd); rintro e w' ⟨rfl, k, rfl⟩; rw [HG.out]))
  go_quiet (fail)
  go_wp2
  exact bodyPost_ret (v := rv ((t)) (b) 0) (by simp [results, Try.results28, go_sem]) rfl ⟨rfl, (by repeat (first | exact Below.refl _ _ | refine below_drewN ?_ _ | refine Below.drew ?_ | refine Below.setCell ?_ (by simp) _ | refine Below.alloc ?_ (by simp) _))⟩

theorem of_any (n d : Int) (w : World) (hn : Rat.I64 n) (hd : Rat.I64 d) :
    Calls Try.prog 28 #[.int .i64 n, .int .i64 d] w fun e w' => e = .returned (rv (Rat.ofN n d) (Rat.ofD n d) (Rat.ofE n d)) ∧ Below w.heap.size w w' := by
  by_cases h0 : d = 0
  · subst h0; exact of_zero n w
  have tdef : Rat.top n d = (n.natAbs : Int) / ((Nat.gcd n.natAbs d.natAbs : Nat) : Int) := by unfold Rat.top; omega
  have bdef : Rat.bot n d = (d.natAbs : Int) / ((Nat.gcd n.natAbs d.natAbs : Nat) : Int) := by unfold Rat.bot; omega
  have hM := Rat.M_eq
  by_cases ht : (1000000000 : Int) < (n.natAbs : Int) / ((Nat.gcd n.natAbs d.natAbs : Nat) : Int)
  · have hbig : Rat.big n d = true := by unfold Rat.big; rw [tdef, hM]; simp [ht]
    have e1 : Rat.ofE n d = 10 := by unfold Rat.ofE; rw [if_neg h0, hbig]; rfl
    have e2 : Rat.ofN n d = 0 := by unfold Rat.ofN; rw [if_neg h0, hbig]; rfl
    have e3 : Rat.ofD n d = 0 := by unfold Rat.ofD; rw [if_neg h0, hbig]; rfl
    rw [e1, e2, e3]; exact of_big1 n d w hn hd h0 ht
  by_cases hb : (1000000000 : Int) < (d.natAbs : Int) / ((Nat.gcd n.natAbs d.natAbs : Nat) : Int)
  · have hbig : Rat.big n d = true := by unfold Rat.big; rw [bdef, hM]; simp [hb]
    have e1 : Rat.ofE n d = 10 := by unfold Rat.ofE; rw [if_neg h0, hbig]; rfl
    have e2 : Rat.ofN n d = 0 := by unfold Rat.ofN; rw [if_neg h0, hbig]; rfl
    have e3 : Rat.ofD n d = 0 := by unfold Rat.ofD; rw [if_neg h0, hbig]; rfl
    rw [e1, e2, e3]; exact of_big2 n d w hn hd h0 (Int.not_lt.1 ht) hb
  have hbig : Rat.big n d = false := by unfold Rat.big; rw [tdef, bdef, hM]; simp only [ht, hb, decide_false, Bool.or_self]
  have e1 : Rat.ofE n d = 0 := by unfold Rat.ofE; rw [if_neg h0, hbig]; rfl
  have e3 : Rat.ofD n d = (d.natAbs : Int) / ((Nat.gcd n.natAbs d.natAbs : Nat) : Int) := by unfold Rat.ofD; rw [if_neg h0, hbig]; exact bdef
  rw [e1, e3]
  by_cases s1 : n < 0 <;> by_cases s2 : d < 0
  · have e2 : Rat.ofN n d = (n.natAbs : Int) / ((Nat.gcd n.natAbs d.natAbs : Nat) : Int) := by unfold Rat.ofN Rat.neg; rw [if_neg h0, hbig]; simp only [s1, s2]; exact tdef
    rw [e2]; exact of_nn n d w hn hd h0 (Int.not_lt.1 ht) (Int.not_lt.1 hb) s1 s2
  · have e2 : Rat.ofN n d = -((n.natAbs : Int) / ((Nat.gcd n.natAbs d.natAbs : Nat) : Int)) := by unfold Rat.ofN Rat.neg; rw [if_neg h0, hbig]; simp only [s1, s2]; exact congrArg (fun x : Int => -x) tdef
    rw [e2]; exact of_np n d w hn hd h0 (Int.not_lt.1 ht) (Int.not_lt.1 hb) s1 (Int.not_lt.1 s2)
  · have e2 : Rat.ofN n d = -((n.natAbs : Int) / ((Nat.gcd n.natAbs d.natAbs : Nat) : Int)) := by unfold Rat.ofN Rat.neg; rw [if_neg h0, hbig]; simp only [s1, s2]; exact congrArg (fun x : Int => -x) tdef
    rw [e2]; exact of_pn n d w hn hd h0 (Int.not_lt.1 ht) (Int.not_lt.1 hb) (Int.not_lt.1 s1) s2
  · have e2 : Rat.ofN n d = (n.natAbs : Int) / ((Nat.gcd n.natAbs d.natAbs : Nat) : Int) := by unfold Rat.ofN Rat.neg; rw [if_neg h0, hbig]; simp only [s1, s2]; exact tdef
    rw [e2]; exact of_pp n d w hn hd h0 (Int.not_lt.1 ht) (Int.not_lt.1 hb) (Int.not_lt.1 s1) (Int.not_lt.1 s2)

set_option maxHeartbeats 400000 in
theorem refOf_zero (n : Int) (w : World) :
    Calls Try.prog 29 #[.int .i64 n, .int .i64 0] w fun e w' => e = .returned (rv 0 0 11) ∧ Below w.heap.size w w' := by
  go_enter Try.func29, Try.ntmps29
  go_wp2
  exact bodyPost_ret (v := rv 0 0 11) (by simp [results, Try.results29, go_sem]) rfl ⟨rfl, (by repeat (first | exact Below.refl _ _ | refine below_drewN ?_ _ | refine Below.drew ?_ | refine Below.setCell ?_ (by simp) _ | refine Below.alloc ?_ (by simp) _))⟩

set_option maxHeartbeats 1000000 in
theorem refOf_big1 (n d : Int) (w : World) (hn : Rat.I64 n) (hd : Rat.I64 d) (h0 : d ≠ 0) (ht : (1000000000 : Int) < (n.natAbs : Int) / ((Nat.gcd n.natAbs d.natAbs : Nat) : Int)) :
    Calls Try.prog 29 #[.int .i64 n, .int .i64 d] w fun e w' => e = .returned (rv 0 0 10) ∧ Below w.heap.size w w' := by
  have hz : ((d : Int) == 0) = false := by simp; omega
  have hG := gcd_ne (n := n) h0
  generalize hGG : Nat.gcd n.natAbs d.natAbs = G at *
  have HG := Lib.hid hGG
  clear hGG
  have hg1 : ((G : Int) == 0) = false := by simp; omega
  have hwt := wrap_quo (g := G) (u64_abs hn)
  have hwb := wrap_quo (g := G) (u64_abs hd)
  have t0 := quo_nonneg n.natAbs G
  have b0 := quo_nonneg d.natAbs G
  generalize ht' : (n.natAbs : Int) / (G : Int) = t at *
  generalize hb' : (d.natAbs : Int) / (G : Int) = b at *
  have hwt2 : IntKind.u64.wrap ((n.natAbs : Int) / (G : Int)) = t := by rw [ht']; exact hwt
  have hwb2 : IntKind.u64.wrap ((d.natAbs : Int) / (G : Int)) = b := by rw [hb']; exact hwb
  clear ht' hb' hwt hwb
  go_enter Try.func29, Try.ntmps29
  go_wp2_with (first
    | (go_at_call 53; refine (size_any _ _ ?_).mono ?_; (first | exact hn | exact hd); rintro e w' ⟨rfl, rfl⟩)
    | (go_at_call 54; refine (refDivisor_any _ _ _ ?_ ?_).mono ?_; (first | exact u64_abs hn | exact u64_abs hd); (first | exact u64_abs hn | exact u64_abs hd); rintro e w' ⟨rfl, rfl⟩; rw [HG.out]))
  exact bodyPost_ret (v := rv 0 0 10) (by simp [results, Try.results29, go_sem]) rfl ⟨rfl, (by repeat (first | exact Below.refl _ _ | refine below_drewN ?_ _ | refine Below.drew ?_ | refine Below.setCell ?_ (by simp) _ | refine Below.alloc ?_ (by simp) _))⟩

set_option maxHeartbeats 1000000 in
theorem refOf_big2 (n d : Int) (w : World) (hn : Rat.I64 n) (hd : Rat.I64 d) (h0 : d ≠ 0) (ht : (n.natAbs : Int) / ((Nat.gcd n.natAbs d.natAbs : Nat) : Int) ≤ 1000000000) (hb : (1000000000 : Int) < (d.natAbs : Int) / ((Nat.gcd n.natAbs d.natAbs : Nat) : Int)) :
    Calls Try.prog 29 #[.int .i64 n, .int .i64 d] w fun e w' => e = .returned (rv 0 0 10) ∧ Below w.heap.size w w' := by
  have hz : ((d : Int) == 0) = false := by simp; omega
  have hG := gcd_ne (n := n) h0
  generalize hGG : Nat.gcd n.natAbs d.natAbs = G at *
  have HG := Lib.hid hGG
  clear hGG
  have hg1 : ((G : Int) == 0) = false := by simp; omega
  have hwt := wrap_quo (g := G) (u64_abs hn)
  have hwb := wrap_quo (g := G) (u64_abs hd)
  have t0 := quo_nonneg n.natAbs G
  have b0 := quo_nonneg d.natAbs G
  generalize ht' : (n.natAbs : Int) / (G : Int) = t at *
  generalize hb' : (d.natAbs : Int) / (G : Int) = b at *
  have hwt2 : IntKind.u64.wrap ((n.natAbs : Int) / (G : Int)) = t := by rw [ht']; exact hwt
  have hwb2 : IntKind.u64.wrap ((d.natAbs : Int) / (G : Int)) = b := by rw [hb']; exact hwb
  clear ht' hb' hwt hwb
  go_enter Try.func29, Try.ntmps29
  go_wp2_with (first
    | (go_at_call 53; refine (size_any _ _ ?_).mono ?_; (first | exact hn | exact hd); rintro e w' ⟨rfl, rfl⟩)
    | (go_at_call 54; refine (refDivisor_any _ _ _ ?_ ?_).mono ?_; (first | exact u64_abs hn | exact u64_abs hd); (first | exact u64_abs hn | exact u64_abs hd); rintro e w' ⟨rfl, rfl⟩; rw [HG.out]))
  exact bodyPost_ret (v := rv 0 0 10) (by simp [results, Try.results29, go_sem]) rfl ⟨rfl, (by repeat (first | exact Below.refl _ _ | refine below_drewN ?_ _ | refine Below.drew ?_ | refine Below.setCell ?_ (by simp) _ | refine Below.alloc ?_ (by simp) _))⟩

set_option maxHeartbeats 1000000 in
theorem refOf_np (n d : Int) (w : World) (hn : Rat.I64 n) (hd : Rat.I64 d) (h0 : d ≠ 0) (ht : (n.natAbs : Int) / ((Nat.gcd n.natAbs d.natAbs : Nat) : Int) ≤ 1000000000) (hb : (d.natAbs : Int) / ((Nat.gcd n.natAbs d.natAbs : Nat) : Int) ≤ 1000000000) (s1 : n < 0) (s2 : 0 ≤ d) :
    Calls Try.prog 29 #[.int .i64 n, .int .i64 d] w fun e w' => e = .returned (rv (-((n.natAbs : Int) / ((Nat.gcd n.natAbs d.natAbs : Nat) : Int))) ((d.natAbs : Int) / ((Nat.gcd n.natAbs d.natAbs : Nat) : Int)) 0) ∧ Below w.heap.size w w' := by
  have hz : ((d : Int) == 0) = false := by simp; omega
  have hG := gcd_ne (n := n) h0
  generalize hGG : Nat.gcd n.natAbs d.natAbs = G at *
  have HG := Lib.hid hGG
  clear hGG
  have hg1 : ((G : Int) == 0) = false := by simp; omega
  have hwt := wrap_quo (g := G) (u64_abs hn)
  have hwb := wrap_quo (g := G) (u64_abs hd)
  have t0 := quo_nonneg n.natAbs G
  have b0 := quo_nonneg d.natAbs G
  generalize ht' : (n.natAbs : Int) / (G : Int) = t at *
  generalize hb' : (d.natAbs : Int) / (G : Int) = b at *
  have hwt2 : IntKind.u64.wrap ((n.natAbs : Int) / (G : Int)) = t := by rw [ht']; exact hwt
  have hwb2 : IntKind.u64.wrap ((d.natAbs : Int) / (G : Int)) = b := by rw [hb']; exact hwb
  clear ht' hb' hwt hwb
  have f2 : decide (d < 0) = false := by simp; omega
  go_enter Try.func29, Try.ntmps29
  go_wp2_with (first
    | (go_at_call 53; refine (size_any _ _ ?_).mono ?_; (first | exact hn | exact hd); rintro e w' ⟨rfl, rfl⟩)
    | (go_at_call 54; refine (refDivisor_any _ _ _ ?_ ?_).mono ?_; (first | exact u64_abs hn | exact u64_abs hd); (first | exact u64_abs hn | exact u64_abs hd); rintro e w' ⟨rfl, rfl⟩; rw [HG.out]))
  exact bodyPost_ret (v := rv (-(t)) (b) 0) (by simp [results, Try.results29, go_sem]) rfl ⟨rfl, (by repeat (first | exact Below.refl _ _ | refine below_drewN ?_ _ | refine Below.drew ?_ | refine Below.setCell ?_ (by simp) _ | refine Below.alloc ?_ (by simp) _))⟩

set_option maxHeartbeats 1000000 in
theorem refOf_pn (n d : Int) (w : World) (hn : Rat.I64 n) (hd : Rat.I64 d) (h0 : d ≠ 0) (ht : (n.natAbs : Int) / ((Nat.gcd n.natAbs d.natAbs : Nat) : Int) ≤ 1000000000) (hb : (d.natAbs : Int) / ((Nat.gcd n.natAbs d.natAbs : Nat) : Int) ≤ 1000000000) (s1 : 0 ≤ n) (s2 : d < 0) :
    Calls Try.prog 29 #[.int .i64 n, .int .i64 d] w fun e w' => e = .returned (rv (-((n.natAbs : Int) / ((Nat.gcd n.natAbs d.natAbs : Nat) : Int))) ((d.natAbs : Int) / ((Nat.gcd n.natAbs d.natAbs : Nat) : Int)) 0) ∧ Below w.heap.size w w' := by
  have hz : ((d : Int) == 0) = false := by simp; omega
  have hG := gcd_ne (n := n) h0
  generalize hGG : Nat.gcd n.natAbs d.natAbs = G at *
  have HG := Lib.hid hGG
  clear hGG
  have hg1 : ((G : Int) == 0) = false := by simp; omega
  have hwt := wrap_quo (g := G) (u64_abs hn)
  have hwb := wrap_quo (g := G) (u64_abs hd)
  have t0 := quo_nonneg n.natAbs G
  have b0 := quo_nonneg d.natAbs G
  generalize ht' : (n.natAbs : Int) / (G : Int) = t at *
  generalize hb' : (d.natAbs : Int) / (G : Int) = b at *
  have hwt2 : IntKind.u64.wrap ((n.natAbs : Int) / (G : Int)) = t := by rw [ht']; exact hwt
  have hwb2 : IntKind.u64.wrap ((d.natAbs : Int) / (G : Int)) = b := by rw [hb']; exact hwb
  clear ht' hb' hwt hwb
  have f1 : decide (n < 0) = false := by simp; omega
  go_enter Try.func29, Try.ntmps29
  go_wp2_with (first
    | (go_at_call 53; refine (size_any _ _ ?_).mono ?_; (first | exact hn | exact hd); rintro e w' ⟨rfl, rfl⟩)
    | (go_at_call 54; refine (refDivisor_any _ _ _ ?_ ?_).mono ?_; (first | exact u64_abs hn | exact u64_abs hd); (first | exact u64_abs hn | exact u64_abs hd); rintro e w' ⟨rfl, rfl⟩; rw [HG.out]))
  exact bodyPost_ret (v := rv (-(t)) (b) 0) (by simp [results, Try.results29, go_sem]) rfl ⟨rfl, (by repeat (first | exact Below.refl _ _ | refine below_drewN ?_ _ | refine Below.drew ?_ | refine Below.setCell ?_ (by simp) _ | refine Below.alloc ?_ (by simp) _))⟩

set_option maxHeartbeats 1000000 in
theorem refOf_nn (n d : Int) (w : World) (hn : Rat.I64 n) (hd : Rat.I64 d) (h0 : d ≠ 0) (ht : (n.natAbs : Int) / ((Nat.gcd n.natAbs d.natAbs : Nat) : Int) ≤ 1000000000) (hb : (d.natAbs : Int) / ((Nat.gcd n.natAbs d.natAbs : Nat) : Int) ≤ 1000000000) (s1 : n < 0) (s2 : d < 0) :
    Calls Try.prog 29 #[.int .i64 n, .int .i64 d] w fun e w' => e = .returned (rv (((n.natAbs : Int) / ((Nat.gcd n.natAbs d.natAbs : Nat) : Int))) ((d.natAbs : Int) / ((Nat.gcd n.natAbs d.natAbs : Nat) : Int)) 0) ∧ Below w.heap.size w w' := by
  have hz : ((d : Int) == 0) = false := by simp; omega
  have hG := gcd_ne (n := n) h0
  generalize hGG : Nat.gcd n.natAbs d.natAbs = G at *
  have HG := Lib.hid hGG
  clear hGG
  have hg1 : ((G : Int) == 0) = false := by simp; omega
  have hwt := wrap_quo (g := G) (u64_abs hn)
  have hwb := wrap_quo (g := G) (u64_abs hd)
  have t0 := quo_nonneg n.natAbs G
  have b0 := quo_nonneg d.natAbs G
  generalize ht' : (n.natAbs : Int) / (G : Int) = t at *
  generalize hb' : (d.natAbs : Int) / (G : Int) = b at *
  have hwt2 : IntKind.u64.wrap ((n.natAbs : Int) / (G : Int)) = t := by rw [ht']; exact hwt
  have hwb2 : IntKind.u64.wrap ((d.natAbs : Int) / (G : Int)) = b := by rw [hb']; exact hwb
  clear ht' hb' hwt hwb
  go_enter Try.func29, Try.ntmps29
  go_wp2_with (first
    | (go_at_call 53; refine (size_any _ _ ?_).mono ?_; (first | exact hn | exact hd); rintro e w' ⟨rfl, rfl⟩)
    | (go_at_call 54; refine (refDivisor_any _ _ _ ?_ ?_).mono ?_; (first | exact u64_abs hn | exact u64_abs hd); (first | exact u64_abs hn | exact u64_abs hd); rintro e w' ⟨rfl, rfl⟩; rw [HG.out]))
  exact bodyPost_ret (v := rv ((t)) (b) 0) (by simp [results, Try.results29, go_sem]) rfl ⟨rfl, (by repeat (first | exact Below.refl _ _ | refine below_drewN ?_ _ | refine Below.drew ?_ | refine Below.setCell ?_ (by simp) _ | refine Below.alloc ?_ (by simp) _))⟩

set_option maxHeartbeats 1000000 in
theorem refOf_pp (n d : Int) (w : World) (hn : Rat.I64 n) (hd : Rat.I64 d) (h0 : d ≠ 0) (ht : (n.natAbs : Int) / ((Nat.gcd n.natAbs d.natAbs : Nat) : Int) ≤ 1000000000) (hb : (d.natAbs : Int) / ((Nat.gcd n.natAbs d.natAbs : Nat) : Int) ≤ 1000000000) (s1 : 0 ≤ n) (s2 : 0 ≤ d) :
    Calls Try.prog 29 #[.int .i64 n, .int .i64 d] w fun e w' => e = .returned (rv (((n.natAbs : Int) / ((Nat.gcd n.natAbs d.natAbs : Nat) : Int))) ((d.natAbs : Int) / ((Nat.gcd n.natAbs d.natAbs : Nat) : Int)) 0) ∧ Below w.heap.size w w' := by
  have hz : ((d : Int) == 0) = false := by simp; omega
  have hG := gcd_ne (n := n) h0
  generalize hGG : Nat.gcd n.natAbs d.natAbs = G at *
  have HG := Lib.hid hGG
  clear hGG
  have hg1 : ((G : Int) == 0) = false := by simp; omega
  have hwt := wrap_quo (g := G) (u64_abs hn)
  have hwb := wrap_quo (g := G) (u64_abs hd)
  have t0 := quo_nonneg n.natAbs G
  have b0 := quo_nonneg d.natAbs G
  generalize ht' : (n.natAbs : Int) / (G : Int) = t at *
  generalize hb' : (d.natAbs : Int) / (G : Int) = b at *
  have hwt2 : IntKind.u64.wrap ((n.natAbs : Int) / (G : Int)) = t := by rw [ht']; exact hwt
  have hwb2 : IntKind.u64.wrap ((d.natAbs : Int) / (G : Int)) = b := by rw [hb']; exact hwb
  clear ht' hb' hwt hwb
  have f1 : decide (n < 0) = false := by simp; omega
  have f2 : decide (d < 0) = false := by simp; omega
  go_enter Try.func29, Try.ntmps29
  go_wp2_with (first
    | (go_at_call 53; refine (size_any _ _ ?_).mono ?_; (first | exact hn | exact hd); rintro e w' ⟨rfl, rfl⟩)
    | (go_at_call 54; refine (refDivisor_any _ _ _ ?_ ?_).mono ?_; (first | exact u64_abs hn | exact u64_abs hd); (first | exact u64_abs hn | exact u64_abs hd); rintro e w' ⟨rfl, rfl⟩; rw [HG.out]))
  exact bodyPost_ret (v := rv ((t)) (b) 0) (by simp [results, Try.results29, go_sem]) rfl ⟨rfl, (by repeat (first | exact Below.refl _ _ | refine below_drewN ?_ _ | refine Below.drew ?_ | refine Below.setCell ?_ (by simp) _ | refine Below.alloc ?_ (by simp) _))⟩

theorem refOf_any (n d : Int) (w : World) (hn : Rat.I64 n) (hd : Rat.I64 d) :
    Calls Try.prog 29 #[.int .i64 n, .int .i64 d] w fun e w' => e = .returned (rv (Rat.ofN n d) (Rat.ofD n d) (Rat.ofE n d)) ∧ Below w.heap.size w w' := by
  by_cases h0 : d = 0
  · subst h0; exact refOf_zero n w
  have tdef : Rat.top n d = (n.natAbs : Int) / ((Nat.gcd n.natAbs d.natAbs : Nat) : Int) := by unfold Rat.top; omega
  have bdef : Rat.bot n d = (d.natAbs : Int) / ((Nat.gcd n.natAbs d.natAbs : Nat) : Int) := by unfold Rat.bot; omega
  have hM := Rat.M_eq
  by_cases ht : (1000000000 : Int) < (n.natAbs : Int) / ((Nat.gcd n.natAbs d.natAbs : Nat) : Int)
  · have hbig : Rat.big n d = true := by unfold Rat.big; rw [tdef, hM]; simp [ht]
    have e1 : Rat.ofE n d = 10 := by unfold Rat.ofE; rw [if_neg h0, hbig]; rfl
    have e2 : Rat.ofN n d = 0 := by unfold Rat.ofN; rw [if_neg h0, hbig]; rfl
    have e3 : Rat.ofD n d = 0 := by unfold Rat.ofD; rw [if_neg h0, hbig]; rfl
    rw [e1, e2, e3]; exact refOf_big1 n d w hn hd h0 ht
  by_cases hb : (1000000000 : Int) < (d.natAbs : Int) / ((Nat.gcd n.natAbs d.natAbs : Nat) : Int)
  · have hbig : Rat.big n d = true := by unfold Rat.big; rw [bdef, hM]; simp [hb]
    have e1 : Rat.ofE n d = 10 := by unfold Rat.ofE; rw [if_neg h0, hbig]; rfl
    have e2 : Rat.ofN n d = 0 := by unfold Rat.ofN; rw [if_neg h0, hbig]; rfl
    have e3 : Rat.ofD n d = 0 := by unfold Rat.ofD; rw [if_neg h0, hbig]; rfl
    rw [e1, e2, e3]; exact refOf_big2 n d w hn hd h0 (Int.not_lt.1 ht) hb
  have hbig : Rat.big n d = false := by unfold Rat.big; rw [tdef, bdef, hM]; simp only [ht, hb, decide_false, Bool.or_self]
  have e1 : Rat.ofE n d = 0 := by unfold Rat.ofE; rw [if_neg h0, hbig]; rfl
  have e3 : Rat.ofD n d = (d.natAbs : Int) / ((Nat.gcd n.natAbs d.natAbs : Nat) : Int) := by unfold Rat.ofD; rw [if_neg h0, hbig]; exact bdef
  rw [e1, e3]
  by_cases s1 : n < 0 <;> by_cases s2 : d < 0
  · have e2 : Rat.ofN n d = (n.natAbs : Int) / ((Nat.gcd n.natAbs d.natAbs : Nat) : Int) := by unfold Rat.ofN Rat.neg; rw [if_neg h0, hbig]; simp only [s1, s2]; exact tdef
    rw [e2]; exact refOf_nn n d w hn hd h0 (Int.not_lt.1 ht) (Int.not_lt.1 hb) s1 s2
  · have e2 : Rat.ofN n d = -((n.natAbs : Int) / ((Nat.gcd n.natAbs d.natAbs : Nat) : Int)) := by unfold Rat.ofN Rat.neg; rw [if_neg h0, hbig]; simp only [s1, s2]; exact congrArg (fun x : Int => -x) tdef
    rw [e2]; exact refOf_np n d w hn hd h0 (Int.not_lt.1 ht) (Int.not_lt.1 hb) s1 (Int.not_lt.1 s2)
  · have e2 : Rat.ofN n d = -((n.natAbs : Int) / ((Nat.gcd n.natAbs d.natAbs : Nat) : Int)) := by unfold Rat.ofN Rat.neg; rw [if_neg h0, hbig]; simp only [s1, s2]; exact congrArg (fun x : Int => -x) tdef
    rw [e2]; exact refOf_pn n d w hn hd h0 (Int.not_lt.1 ht) (Int.not_lt.1 hb) (Int.not_lt.1 s1) s2
  · have e2 : Rat.ofN n d = (n.natAbs : Int) / ((Nat.gcd n.natAbs d.natAbs : Nat) : Int) := by unfold Rat.ofN Rat.neg; rw [if_neg h0, hbig]; simp only [s1, s2]; exact tdef
    rw [e2]; exact refOf_pp n d w hn hd h0 (Int.not_lt.1 ht) (Int.not_lt.1 hb) (Int.not_lt.1 s1) (Int.not_lt.1 s2)
end Go.Proofs.Ytlodhfdikglgoaa
