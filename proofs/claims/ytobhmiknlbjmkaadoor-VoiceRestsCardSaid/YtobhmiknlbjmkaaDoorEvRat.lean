/-
  Out of layer 1: the contracts of ratio.Of and of the reference's; '==' on ratios.
-/
import Derived.Test.YtobhmiknlbjmkaaDoorEvBase
namespace Go.Proofs.YtobhmiknlbjmkaaDoor
open Go.RowKit

def U64 (n : Nat) : Prop := n ≤ 18446744073709551615

theorem u64_abs {n : Int} (h : Rat.I64 n) : U64 n.natAbs := by unfold Rat.I64 at h; unfold U64; omega

theorem wrap_neg {n : Int} (h : Rat.I64 n) (hn : n < 0) : IntKind.u64.wrap (-IntKind.u64.wrap n) = (n.natAbs : Int) := by
  unfold Rat.I64 at h; rw [IntKind.wrap_u64, IntKind.wrap_u64]; omega

theorem wrap_pos {n : Int} (h : Rat.I64 n) (hn : 0 ≤ n) : IntKind.u64.wrap n = (n.natAbs : Int) := by
  unfold Rat.I64 at h; rw [IntKind.wrap_u64]; omega

set_option maxHeartbeats 400000 in
theorem magnitude_any (n : Int) (w : World) (h : Rat.I64 n) :
    Calls Tryd.prog 35 #[.int .i64 n] w fun e w' => e = .returned (.int .u64 (n.natAbs : Int)) ∧ w = w' := by
  by_cases hn : n < 0
  · go_enter Tryd.func35, Tryd.ntmps35
    go_wp2
    go_ret
    exact ⟨ret_int (wrap_neg h hn), rfl⟩
  · go_enter Tryd.func35, Tryd.ntmps35
    go_wp2
    go_ret
    exact ⟨ret_int (wrap_pos h hn), rfl⟩

theorem u64_mod_le {p q : Nat} (hq : U64 q) (h0 : q ≠ 0) : U64 (p % q) := by
  unfold U64 at *
  have h2 : p % q < q := Nat.mod_lt _ (by omega)
  omega

def GcdRel (a b : Nat) (w : World) (x y : Value) (w' : World) : Prop := ∃ p q : Nat, x = .int .u64 p ∧ y = .int .u64 q ∧ Nat.gcd p q = Nat.gcd a b ∧ U64 p ∧ U64 q ∧ ∃ k, w' = w.drewN k

set_option maxHeartbeats 400000 in
theorem divisor_any (a b : Nat) (w : World) (ha : U64 a) (hb : U64 b) :
    Calls Tryd.prog 36 #[.int .u64 (a : Int), .int .u64 (b : Int)] w fun e w' => e = .returned (.int .u64 (Nat.gcd a b : Nat)) ∧ ∃ k, w' = w.drewN k := by
  go_enter Tryd.func36, Tryd.ntmps36
  go_wp2
  go_loopw [0, 1] (GcdRel a b w) (fun _ y _ => (intOf y).toNat)
  case atStart => exact ⟨a, b, rfl, rfl, rfl, ha, hb, 0, rfl⟩
  case round =>
    obtain ⟨p, q, rfl, rfl, hg, hp, hq, k, rfl⟩ := hrel
    have HG := Lib.hid hg
    clear hg
    by_cases h0 : q = 0
    · subst h0
      have hz : (((0 : Nat) : Int) != 0) = false := by decide
      go_wp2
      go_ret
      exact ⟨ret_int (by have := HG.out; rw [Nat.gcd_zero_right] at this; rw [this]), k, rfl⟩
    · have hz : ((q : Int) != 0) = true := by simp; omega
      have hz2 : ((q : Int) == 0) = false := by simp; omega
      have hl := Nat.mod_lt p (Nat.pos_of_ne_zero h0)
      go_wp2
      go_quiet (fail)
      go_wp2
      refine ⟨⟨q, p % q, rfl, by simp, ?_, hq, u64_mod_le hq h0, k + nq, by simp [World.drewN, Nat.add_assoc]⟩, by simp [intOf]; omega⟩
      rw [← HG.out, Nat.gcd_comm q, ← Nat.gcd_rec, Nat.gcd_comm]

/-- What Of, Add, Sub, Mul, Div answer. -/
abbrev rv (x y e : Int) : Value := .tuple #[.agg #[.int .i64 x, .int .i64 y], .int .i64 e]

theorem wrap_quo {n g : Nat} (h : U64 n) : IntKind.u64.wrap ((n : Int) / (g : Int)) = (n : Int) / (g : Int) := by
  unfold U64 at h
  have h1 : (n : Int) / (g : Int) = ((n / g : Nat) : Int) := by simp
  have h2 : n / g ≤ n := Nat.div_le_self _ _
  rw [h1]
  generalize n / g = q at *
  rw [IntKind.wrap_u64]; omega

theorem quo_nonneg (n g : Nat) : (0 : Int) ≤ (n : Int) / (g : Int) := Int.ediv_nonneg (by omega) (by omega)

theorem gcd_ne {n d : Int} (hd : d ≠ 0) : Nat.gcd n.natAbs d.natAbs ≠ 0 := by
  have : 0 < Nat.gcd n.natAbs d.natAbs := Nat.gcd_pos_of_pos_right _ (by omega)
  omega

set_option maxHeartbeats 400000 in
theorem of_zero (n : Int) (w : World) :
    Calls Tryd.prog 18 #[.int .i64 n, .int .i64 0] w fun e w' => e = .returned (rv 0 0 11) ∧ Below w.heap.size w w' := by
  go_enter Tryd.func18, Tryd.ntmps18
  go_wp2
  exact bodyPost_ret (v := rv 0 0 11) (by simp [results, Tryd.results18, go_sem]) rfl ⟨rfl, (by repeat (first | exact Below.refl _ _ | refine below_drewN ?_ _ | refine Below.drew ?_ | refine Below.setCell ?_ (by simp) _ | refine Below.alloc ?_ (by simp) _))⟩

set_option maxHeartbeats 1000000 in
theorem of_big1 (n d : Int) (w : World) (hn : Rat.I64 n) (hd : Rat.I64 d) (h0 : d ≠ 0) (ht : (1000000000 : Int) < (n.natAbs : Int) / ((Nat.gcd n.natAbs d.natAbs : Nat) : Int)) :
    Calls Tryd.prog 18 #[.int .i64 n, .int .i64 d] w fun e w' => e = .returned (rv 0 0 10) ∧ Below w.heap.size w w' := by
  have hz : ((d : Int) == 0) = false := by simp; omega
  have hG := gcd_ne (n := n) h0
  generalize hGG : Nat.gcd n.natAbs d.natAbs = G at *
  have HG := Lib.hid hGG
  clear hGG
  have hg1 : ((G : Int) == 0) = false := by simp; omega
  have hwt := wrap_quo (g := G) (u64_abs hn)
  have hwb := wrap_quo (g := G) (u64_abs hd)
  have t0 := quo_nonneg n.natAbs G
  have b0 := quo_nonneg d.natAbs G
  generalize ht' : (n.natAbs : Int) / (G : Int) = t at *
  generalize hb' : (d.natAbs : Int) / (G : Int) = b at *
  have hwt2 : IntKind.u64.wrap ((n.natAbs : Int) / (G : Int)) = t := by rw [ht']; exact hwt
  have hwb2 : IntKind.u64.wrap ((d.natAbs : Int) / (G : Int)) = b := by rw [hb']; exact hwb
  clear ht' hb' hwt hwb
  go_enter Tryd.func18, Tryd.ntmps18
  go_wp2_with (first
    | (go_at_call 35; refine (magnitude_any _ _ ?_).mono ?_; (first | exact hn | exact hd); rintro e w' ⟨rfl, rfl⟩)
    | (go_at_call 36; refine (divisor_any _ _ _ ?_ ?_).mono ?_; (first | exact u64_abs hn | exact u64_abs hd); (first | exact u64_abs hn | exact u64_abs hd); rintro e w' ⟨rfl, k, rfl⟩; rw [HG.out]))
  go_quiet (fail)
  go_wp2
  exact bodyPost_ret (v := rv 0 0 10) (by simp [results, Tryd.results18, go_sem]) rfl ⟨rfl, (by repeat (first | exact Below.refl _ _ | refine below_drewN ?_ _ | refine Below.drew ?_ | refine Below.setCell ?_ (by simp) _ | refine Below.alloc ?_ (by simp) _))⟩

set_option maxHeartbeats 1000000 in
theorem of_big2 (n d : Int) (w : World) (hn : Rat.I64 n) (hd : Rat.I64 d) (h0 : d ≠ 0) (ht : (n.natAbs : Int) / ((Nat.gcd n.natAbs d.natAbs : Nat) : Int) ≤ 1000000000) (hb : (1000000000 : Int) < (d.natAbs : Int) / ((Nat.gcd n.natAbs d.natAbs : Nat) : Int)) :
    Calls Tryd.prog 18 #[.int .i64 n, .int .i64 d] w fun e w' => e = .returned (rv 0 0 10) ∧ Below w.heap.size w w' := by
  have hz : ((d : Int) == 0) = false := by simp; omega
  have hG := gcd_ne (n := n) h0
  generalize hGG : Nat.gcd n.natAbs d.natAbs = G at *
  have HG := Lib.hid hGG
  clear hGG
  have hg1 : ((G : Int) == 0) = false := by simp; omega
  have hwt := wrap_quo (g := G) (u64_abs hn)
  have hwb := wrap_quo (g := G) (u64_abs hd)
  have t0 := quo_nonneg n.natAbs G
  have b0 := quo_nonneg d.natAbs G
  generalize ht' : (n.natAbs : Int) / (G : Int) = t at *
  generalize hb' : (d.natAbs : Int) / (G : Int) = b at *
  have hwt2 : IntKind.u64.wrap ((n.natAbs : Int) / (G : Int)) = t := by rw [ht']; exact hwt
  have hwb2 : IntKind.u64.wrap ((d.natAbs : Int) / (G : Int)) = b := by rw [hb']; exact hwb
  clear ht' hb' hwt hwb
  go_enter Tryd.func18, Tryd.ntmps18
  go_wp2_with (first
    | (go_at_call 35; refine (magnitude_any _ _ ?_).mono ?_; (first | exact hn | exact hd); rintro e w' ⟨rfl, rfl⟩)
    | (go_at_call 36; refine (divisor_any _ _ _ ?_ ?_).mono ?_; (first | exact u64_abs hn | exact u64_abs hd); (first | exact u64_abs hn | exact u64_abs hd); rintro e w' ⟨rfl, k, rfl⟩; rw [HG.out]))
  go_quiet (fail)
  go_wp2
  exact bodyPost_ret (v := rv 0 0 10) (by simp [results, Tryd.results18, go_sem]) rfl ⟨rfl, (by repeat (first | exact Below.refl _ _ | refine below_drewN ?_ _ | refine Below.drew ?_ | refine Below.setCell ?_ (by simp) _ | refine Below.alloc ?_ (by simp) _))⟩

set_option maxHeartbeats 1000000 in
theorem of_np (n d : Int) (w : World) (hn : Rat.I64 n) (hd : Rat.I64 d) (h0 : d ≠ 0) (ht : (n.natAbs : Int) / ((Nat.gcd n.natAbs d.natAbs : Nat) : Int) ≤ 1000000000) (hb : (d.natAbs : Int) / ((Nat.gcd n.natAbs d.natAbs : Nat) : Int) ≤ 1000000000) (s1 : n < 0) (s2 : 0 ≤ d) :
    Calls Tryd.prog 18 #[.int .i64 n, .int .i64 d] w fun e w' => e = .returned (rv (-((n.natAbs : Int) / ((Nat.gcd n.natAbs d.natAbs : Nat) : Int))) ((d.natAbs : Int) / ((Nat.gcd n.natAbs d.natAbs : Nat) : Int)) 0) ∧ Below w.heap.size w w' := by
  have hz : ((d : Int) == 0) = false := by simp; omega
  have hG := gcd_ne (n := n) h0
  generalize hGG : Nat.gcd n.natAbs d.natAbs = G at *
  have HG := Lib.hid hGG
  clear hGG
  have hg1 : ((G : Int) == 0) = false := by simp; omega
  have hwt := wrap_quo (g := G) (u64_abs hn)
  have hwb := wrap_quo (g := G) (u64_abs hd)
  have t0 := quo_nonneg n.natAbs G
  have b0 := quo_nonneg d.natAbs G
  generalize ht' : (n.natAbs : Int) / (G : Int) = t at *
  generalize hb' : (d.natAbs : Int) / (G : Int) = b at *
  have hwt2 : IntKind.u64.wrap ((n.natAbs : Int) / (G : Int)) = t := by rw [ht']; exact hwt
  have hwb2 : IntKind.u64.wrap ((d.natAbs : Int) / (G : Int)) = b := by rw [hb']; exact hwb
  clear ht' hb' hwt hwb
  have f2 : decide (d < 0) = false := by simp; omega
  go_enter Tryd.func18, Tryd.ntmps18
  go_wp2_with (first
    | (go_at_call 35; refine (magnitude_any _ _ ?_).mono ?_; (first | exact hn | exact hd); rintro e w' ⟨rfl, rfl⟩)
    | (go_at_call 36; refine (divisor_any _ _ _ ?_ ?_).mono ?_; (first | exact u64_abs hn | exact u64_abs hd); (first | exact u64_abs hn | exact u64_abs hd); rintro e w' ⟨rfl, k, rfl⟩; rw [HG.out]))
  go_quiet (fail)
  go_wp2
  exact bodyPost_ret (v := rv (-(t)) (b) 0) (by simp [results, Tryd.results18, go_sem]) rfl ⟨rfl, (by repeat (first | exact Below.refl _ _ | refine below_drewN ?_ _ | refine Below.drew ?_ | refine Below.setCell ?_ (by simp) _ | refine Below.alloc ?_ (by simp) _))⟩

set_option maxHeartbeats 1000000 in
theorem of_pn (n d : Int) (w : World) (hn : Rat.I64 n) (hd : Rat.I64 d) (h0 : d ≠ 0) (ht : (n.natAbs : Int) / ((Nat.gcd n.natAbs d.natAbs : Nat) : Int) ≤ 1000000000) (hb : (d.natAbs : Int) / ((Nat.gcd n.natAbs d.natAbs : Nat) : Int) ≤ 1000000000) (s1 : 0 ≤ n) (s2 : d < 0) :
    Calls Tryd.prog 18 #[.int .i64 n, .int .i64 d] w fun e w' => e = .returned (rv (-((n.natAbs : Int) / ((Nat.gcd n.natAbs d.natAbs : Nat) : Int))) ((d.natAbs : Int) / ((Nat.gcd n.natAbs d.natAbs : Nat) : Int)) 0) ∧ Below w.heap.size w w' := by
  have hz : ((d : Int) == 0) = false := by simp; omega
  have hG := gcd_ne (n := n) h0
  generalize hGG : Nat.gcd n.natAbs d.natAbs = G at *
  have HG := Lib.hid hGG
  clear hGG
  have hg1 : ((G : Int) == 0) = false := by simp; omega
  have hwt := wrap_quo (g := G) (u64_abs hn)
  have hwb := wrap_quo (g := G) (u64_abs hd)
  have t0 := quo_nonneg n.natAbs G
  have b0 := quo_nonneg d.natAbs G
  generalize ht' : (n.natAbs : Int) / (G : Int) = t at *
  generalize hb' : (d.natAbs : Int) / (G : Int) = b at *
  have hwt2 : IntKind.u64.wrap ((n.natAbs : Int) / (G : Int)) = t := by rw [ht']; exact hwt
  have hwb2 : IntKind.u64.wrap ((d.natAbs : Int) / (G : Int)) = b := by rw [hb']; exact hwb
  clear ht' hb' hwt hwb
  have f1 : decide (n < 0) = false := by simp; omega
  go_enter Tryd.func18, Tryd.ntmps18
  go_wp2_with (first
    | (go_at_call 35; refine (magnitude_any _ _ ?_).mono ?_; (first | exact hn | exact hd); rintro e w' ⟨rfl, rfl⟩)
    | (go_at_call 36; refine (divisor_any _ _ _ ?_ ?_).mono ?_; (first | exact u64_abs hn | exact u64_abs hd); (first | exact u64_abs hn | exact u64_abs hd); rintro e w' ⟨rfl, k, rfl⟩; rw [HG.out]))
  go_quiet (fail)
  go_wp2
  exact bodyPost_ret (v := rv (-(t)) (b) 0) (by simp [results, Tryd.results18, go_sem]) rfl ⟨rfl, (by repeat (first | exact Below.refl _ _ | refine below_drewN ?_ _ | refine Below.drew ?_ | refine Below.setCell ?_ (by simp) _ | refine Below.alloc ?_ (by simp) _))⟩

set_option maxHeartbeats 1000000 in
theorem of_nn (n d : Int) (w : World) (hn : Rat.I64 n) (hd : Rat.I64 d) (h0 : d ≠ 0) (ht : (n.natAbs : Int) / ((Nat.gcd n.natAbs d.natAbs : Nat) : Int) ≤ 1000000000) (hb : (d.natAbs : Int) / ((Nat.gcd n.natAbs d.natAbs : Nat) : Int) ≤ 1000000000) (s1 : n < 0) (s2 : d < 0) :
    Calls Tryd.prog 18 #[.int .i64 n, .int .i64 d] w fun e w' => e = .returned (rv (((n.natAbs : Int) / ((Nat.gcd n.natAbs d.natAbs : Nat) : Int))) ((d.natAbs : Int) / ((Nat.gcd n.natAbs d.natAbs : Nat) : Int)) 0) ∧ Below w.heap.size w w' := by
  have hz : ((d : Int) == 0) = false := by simp; omega
  have hG := gcd_ne (n := n) h0
  generalize hGG : Nat.gcd n.natAbs d.natAbs = G at *
  have HG := Lib.hid hGG
  clear hGG
  have hg1 : ((G : Int) == 0) = false := by simp; omega
  have hwt := wrap_quo (g := G) (u64_abs hn)
  have hwb := wrap_quo (g := G) (u64_abs hd)
  have t0 := quo_nonneg n.natAbs G
  have b0 := quo_nonneg d.natAbs G
  generalize ht' : (n.natAbs : Int) / (G : Int) = t at *
  generalize hb' : (d.natAbs : Int) / (G : Int) = b at *
  have hwt2 : IntKind.u64.wrap ((n.natAbs : Int) / (G : Int)) = t := by rw [ht']; exact hwt
  have hwb2 : IntKind.u64.wrap ((d.natAbs : Int) / (G : Int)) = b := by rw [hb']; exact hwb
  clear ht' hb' hwt hwb
  go_enter Tryd.func18, Tryd.ntmps18
  go_wp2_with (first
    | (go_at_call 35; refine (magnitude_any _ _ ?_).mono ?_; (first | exact hn | exact hd); rintro e w' ⟨rfl, rfl⟩)
    | (go_at_call 36; refine (divisor_any _ _ _ ?_ ?_).mono ?_; (first | exact u64_abs hn | exact u64_abs hd); (first | exact u64_abs hn | exact u64_abs hd); rintro e w' ⟨rfl, k, rfl⟩; rw [HG.out]))
  go_quiet (fail)
  go_wp2
  exact bodyPost_ret (v := rv ((t)) (b) 0) (by simp [results, Tryd.results18, go_sem]) rfl ⟨rfl, (by repeat (first | exact Below.refl _ _ | refine below_drewN ?_ _ | refine Below.drew ?_ | refine Below.setCell ?_ (by simp) _ | refine Below.alloc ?_ (by simp) _))⟩

set_option maxHeartbeats 1000000 in
theorem of_pp (n d : Int) (w : World) (hn : Rat.I64 n) (hd : Rat.I64 d) (h0 : d ≠ 0) (ht : (n.natAbs : Int) / ((Nat.gcd n.natAbs d.natAbs : Nat) : Int) ≤ 1000000000) (hb : (d.natAbs : Int) / ((Nat.gcd n.natAbs d.natAbs : Nat) : Int) ≤ 1000000000) (s1 : 0 ≤ n) (s2 : 0 ≤ d) :
    Calls Tryd.prog 18 #[.int .i64 n, .int .i64 d] w fun e w' => e = .returned (rv (((n.natAbs : Int) / ((Nat.gcd n.natAbs d.natAbs : Nat) : Int))) ((d.natAbs : Int) / ((Nat.gcd n.natAbs d.natAbs : Nat) : Int)) 0) ∧ Below w.heap.size w w' := by
  have hz : ((d : Int) == 0) = false := by simp; omega
  have hG := gcd_ne (n := n) h0
  generalize hGG : Nat.gcd n.natAbs d.natAbs = G at *
  have HG := Lib.hid hGG
  clear hGG
  have hg1 : ((G : Int) == 0) = false := by simp; omega
  have hwt := wrap_quo (g := G) (u64_abs hn)
  have hwb := wrap_quo (g := G) (u64_abs hd)
  have t0 := quo_nonneg n.natAbs G
  have b0 := quo_nonneg d.natAbs G
  generalize ht' : (n.natAbs : Int) / (G : Int) = t at *
  generalize hb' : (d.natAbs : Int) / (G : Int) = b at *
  have hwt2 : IntKind.u64.wrap ((n.natAbs : Int) / (G : Int)) = t := by rw [ht']; exact hwt
  have hwb2 : IntKind.u64.wrap ((d.natAbs : Int) / (G : Int)) = b := by rw [hb']; exact hwb
  clear ht' hb' hwt hwb
  have f1 : decide (n < 0) = false := by simp; omega
  have f2 : decide (d < 0) = false := by simp; omega
  go_enter Tryd.func18, Tryd.ntmps18
  go_wp2_with (first
    | (go_at_call 35; refine (magnitude_any _ _ ?_).mono ?_; (first | exact hn | exact hd); rintro e w' ⟨rfl, rfl⟩)
    | (go_at_call 36; refine (divisor_any _ _ _ ?_ ?_).mono ?_; (first | exact u64_abs hn | exact u64_abs hd); (first | exact u64_abs hn | exact u64_abs hd); rintro e w' ⟨rfl, k, rfl⟩; rw [HG.out]))
  go_quiet (fail)
  go_wp2
  exact bodyPost_ret (v := rv ((t)) (b) 0) (by simp [results, Tryd.results18, go_sem]) rfl ⟨rfl, (by repeat (first | exact Below.refl _ _ | refine below_drewN ?_ _ | refine Below.drew ?_ | refine Below.setCell ?_ (by simp) _ | refine Below.alloc ?_ (by simp) _))⟩

theorem of_any (n d : Int) (w : World) (hn : Rat.I64 n) (hd : Rat.I64 d) :
    Calls Tryd.prog 18 #[.int .i64 n, .int .i64 d] w fun e w' => e = .returned (rv (Rat.ofN n d) (Rat.ofD n d) (Rat.ofE n d)) ∧ Below w.heap.size w w' := by
  by_cases h0 : d = 0
  · subst h0; exact of_zero n w
  have tdef : Rat.top n d = (n.natAbs : Int) / ((Nat.gcd n.natAbs d.natAbs : Nat) : Int) := by unfold Rat.top; omega
  have bdef : Rat.bot n d = (d.natAbs : Int) / ((Nat.gcd n.natAbs d.natAbs : Nat) : Int) := by unfold Rat.bot; omega
  have hM := Rat.M_eq
  by_cases ht : (1000000000 : Int) < (n.natAbs : Int) / ((Nat.gcd n.natAbs d.natAbs : Nat) : Int)
  · have hbig : Rat.big n d = true := by unfold Rat.big; rw [tdef, hM]; simp [ht]
    have e1 : Rat.ofE n d = 10 := by unfold Rat.ofE; rw [if_neg h0, hbig]; rfl
    have e2 : Rat.ofN n d = 0 := by unfold Rat.ofN; rw [if_neg h0, hbig]; rfl
    have e3 : Rat.ofD n d = 0 := by unfold Rat.ofD; rw [if_neg h0, hbig]; rfl
    rw [e1, e2, e3]; exact of_big1 n d w hn hd h0 ht
  by_cases hb : (1000000000 : Int) < (d.natAbs : Int) / ((Nat.gcd n.natAbs d.natAbs : Nat) : Int)
  · have hbig : Rat.big n d = true := by unfold Rat.big; rw [bdef, hM]; simp [hb]
    have e1 : Rat.ofE n d = 10 := by unfold Rat.ofE; rw [if_neg h0, hbig]; rfl
    have e2 : Rat.ofN n d = 0 := by unfold Rat.ofN; rw [if_neg h0, hbig]; rfl
    have e3 : Rat.ofD n d = 0 := by unfold Rat.ofD; rw [if_neg h0, hbig]; rfl
    rw [e1, e2, e3]; exact of_big2 n d w hn hd h0 (Int.not_lt.1 ht) hb
  have hbig : Rat.big n d = false := by unfold Rat.big; rw [tdef, bdef, hM]; simp only [ht, hb, decide_false, Bool.or_self]
  have e1 : Rat.ofE n d = 0 := by unfold Rat.ofE; rw [if_neg h0, hbig]; rfl
  have e3 : Rat.ofD n d = (d.natAbs : Int) / ((Nat.gcd n.natAbs d.natAbs : Nat) : Int) := by unfold Rat.ofD; rw [if_neg h0, hbig]; exact bdef
  rw [e1, e3]
  by_cases s1 : n < 0 <;> by_cases s2 : d < 0
  · have e2 : Rat.ofN n d = (n.natAbs : Int) / ((Nat.gcd n.natAbs d.natAbs : Nat) : Int) := by unfold Rat.ofN Rat.neg; rw [if_neg h0, hbig]; simp only [s1, s2]; exact tdef
    rw [e2]; exact of_nn n d w hn hd h0 (Int.not_lt.1 ht) (Int.not_lt.1 hb) s1 s2
  · have e2 : Rat.ofN n d = -((n.natAbs : Int) / ((Nat.gcd n.natAbs d.natAbs : Nat) : Int)) := by unfold Rat.ofN Rat.neg; rw [if_neg h0, hbig]; simp only [s1, s2]; exact congrArg (fun x : Int => -x) tdef
    rw [e2]; exact of_np n d w hn hd h0 (Int.not_lt.1 ht) (Int.not_lt.1 hb) s1 (Int.not_lt.1 s2)
  · have e2 : Rat.ofN n d = -((n.natAbs : Int) / ((Nat.gcd n.natAbs d.natAbs : Nat) : Int)) := by unfold Rat.ofN Rat.neg; rw [if_neg h0, hbig]; simp only [s1, s2]; exact congrArg (fun x : Int => -x) tdef
    rw [e2]; exact of_pn n d w hn hd h0 (Int.not_lt.1 ht) (Int.not_lt.1 hb) (Int.not_lt.1 s1) s2
  · have e2 : Rat.ofN n d = (n.natAbs : Int) / ((Nat.gcd n.natAbs d.natAbs : Nat) : Int) := by unfold Rat.ofN Rat.neg; rw [if_neg h0, hbig]; simp only [s1, s2]; exact tdef
    rw [e2]; exact of_pp n d w hn hd h0 (Int.not_lt.1 ht) (Int.not_lt.1 hb) (Int.not_lt.1 s1) (Int.not_lt.1 s2)

/-- A ratio as a value. -/
abbrev rt (n d : Int) : Value := .agg #[.int .i64 n, .int .i64 d]

/-- Are two ratios the same, term by term? -/
def eqR (a b c d : Int) : Bool := a == c && b == d

theorem eqR_iff (a b c d : Int) : eqR a b c d = true ↔ a = c ∧ b = d := by unfold eqR; simp

theorem eqR_self (a b : Int) : eqR a b a b = true := (eqR_iff _ _ _ _).2 ⟨rfl, rfl⟩

theorem guardR : Tryd.prog.eqGuardType Tryd.prog.depth 36 = false := by kernel_rfl

theorem eql_rt (a b c d : Int) (w : World) : (binOp .eql 36 (rt a b) (rt c d)).run Tryd.prog w = .ok (.bool (eqR a b c d)) w := by
  have u3 := Tryd.underlying3
  have a3 := Tryd.isAgg3
  have z3 := Tryd.sizeOf3
  have hS : Tryd.prog.underlying 36 = some (.struct (Tryd.prog.fieldsOf 36)) := by kernel_rfl
  have hp : Tryd.prog.stoodInHeld 36 = false := by kernel_rfl
  rw [run_eql_struct, show (10000 : Nat) = 9999 + 1 from rfl, run_equalIn_agg w 9999 36 _ _ hS hp]
  simp only [Program.fieldsOf, Tryd.underlying36]
  go_simp
  unfold eqR
  by_cases h1 : a = c <;> by_cases h2 : b = d <;> simp [h1, h2]

theorem neq_rt (a b c d : Int) (w : World) : (binOp .neq 36 (rt a b) (rt c d)).run Tryd.prog w = .ok (.bool (!eqR a b c d)) w := by
  have u3 := Tryd.underlying3
  have a3 := Tryd.isAgg3
  have z3 := Tryd.sizeOf3
  have hS : Tryd.prog.underlying 36 = some (.struct (Tryd.prog.fieldsOf 36)) := by kernel_rfl
  have hp : Tryd.prog.stoodInHeld 36 = false := by kernel_rfl
  rw [run_neq_struct, show (10000 : Nat) = 9999 + 1 from rfl, run_equalIn_agg w 9999 36 _ _ hS hp]
  simp only [Program.fieldsOf, Tryd.underlying36]
  go_simp
  unfold eqR
  by_cases h1 : a = c <;> by_cases h2 : b = d <;> simp [h1, h2]

theorem i64_wrap64 (n : Int) : Rat.I64 (wrap64 n) := by unfold Rat.I64 wrap64; omega
end Go.Proofs.YtobhmiknlbjmkaaDoor
