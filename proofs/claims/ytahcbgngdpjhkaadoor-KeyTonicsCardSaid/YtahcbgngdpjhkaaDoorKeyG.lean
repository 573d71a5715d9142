/-
  The contracts of key.Alter, of strings.Repeat at no or one copy, and of key.Text.
-/
import Derived.Test.YtahcbgngdpjhkaaDoorKeyF
namespace Go.Proofs.YtahcbgngdpjhkaaDoor
open Go.RowKit

set_option maxRecDepth 100000 in
set_option maxHeartbeats 4000000 in
theorem alter_no1 (f : Int) (m : Bool) (s : Int) (w : World) (h : Key.okF f = false) :
    Calls Tryd.prog 22 #[ky f m, .int .i64 s] w fun e w' => e = .returned (.tuple #[.int .i64 (0), .int .i64 30]) ∧ Below w.heap.size w w' := by
  have hB0 : Below w.heap.size w w := Below.refl _ _
  go_enter Tryd.func22, Tryd.ntmps22
  go_wp2_with fail
  refine (kright_no m _ h).mono ?_
  rintro e w1 ⟨rfl, hb1⟩
  have hs1 : Below w.heap.size w w1 := Below.trans (by repeat (first | exact Below.refl _ _ | refine Below.alloc ?_ (by simp <;> omega) _)) (hb1.mono (by simp <;> omega))
  have c_k_0 : w1.cell? ⟨w.heap.size, 0, none⟩ = some (.int .i64 f) := (hb1.cell (by simp <;> omega)).trans (by go_simp)
  have c_k_1 : w1.cell? ⟨w.heap.size, 1, none⟩ = some (.bool m) := (hb1.cell (by simp <;> omega)).trans (by go_simp)
  have z_k := World.block_lt_of_cell? _ _ c_k_0
  have hB1 := below_two hB0 hs1
  clear hB0 hs1 hb1
  go_wp2
  go_ret2
  exact ⟨rfl, hB1⟩

set_option maxRecDepth 100000 in
set_option maxHeartbeats 4000000 in
theorem alter_no2 (f : Int) (m : Bool) (s : Int) (w : World) (h0 : -7 ≤ f) (h7 : f ≤ 7) (h : ¬ (0 ≤ s ∧ s ≤ 6)) :
    Calls Tryd.prog 22 #[ky f m, .int .i64 s] w fun e w' => e = .returned (.tuple #[.int .i64 (0), .int .i64 2]) ∧ Below w.heap.size w w' := by
  have hB0 : Below w.heap.size w w := Below.refl _ _
  go_enter Tryd.func22, Tryd.ntmps22
  go_wp2_with fail
  refine (kright_yes m _ h0 h7).mono ?_
  rintro e w1 ⟨rfl, hb1⟩
  have hs1 : Below w.heap.size w w1 := Below.trans (by repeat (first | exact Below.refl _ _ | refine Below.alloc ?_ (by simp <;> omega) _)) (hb1.mono (by simp <;> omega))
  have c_k_0 : w1.cell? ⟨w.heap.size, 0, none⟩ = some (.int .i64 f) := (hb1.cell (by simp <;> omega)).trans (by go_simp)
  have c_k_1 : w1.cell? ⟨w.heap.size, 1, none⟩ = some (.bool m) := (hb1.cell (by simp <;> omega)).trans (by go_simp)
  have z_k := World.block_lt_of_cell? _ _ c_k_0
  have hB1 := below_two hB0 hs1
  clear hB0 hs1 hb1
  go_wp2_with fail
  refine (kwithin_no h _).mono ?_
  rintro e wx ⟨rfl, rfl⟩
  go_wp2
  go_ret2
  exact ⟨rfl, hB1⟩

set_option maxRecDepth 100000 in
set_option maxHeartbeats 4000000 in
theorem alter_yes (f : Int) (m : Bool) (s : Int) (w : World) (h0 : -7 ≤ f) (h7 : f ≤ 7) (s0 : 0 ≤ s) (s6 : s ≤ 6) :
    Calls Tryd.prog 22 #[ky f m, .int .i64 s] w fun e w' => e = .returned (.tuple #[.int .i64 (Key.sg f s), .int .i64 0]) ∧ Below w.heap.size w w' := by
  have hB0 : Below w.heap.size w w := Below.refl _ _
  go_enter Tryd.func22, Tryd.ntmps22
  go_wp2_with fail
  refine (kright_yes m _ h0 h7).mono ?_
  rintro e w1 ⟨rfl, hb1⟩
  have hs1 : Below w.heap.size w w1 := Below.trans (by repeat (first | exact Below.refl _ _ | refine Below.alloc ?_ (by simp <;> omega) _)) (hb1.mono (by simp <;> omega))
  have c_k_0 : w1.cell? ⟨w.heap.size, 0, none⟩ = some (.int .i64 f) := (hb1.cell (by simp <;> omega)).trans (by go_simp)
  have c_k_1 : w1.cell? ⟨w.heap.size, 1, none⟩ = some (.bool m) := (hb1.cell (by simp <;> omega)).trans (by go_simp)
  have z_k := World.block_lt_of_cell? _ _ c_k_0
  have hB1 := below_two hB0 hs1
  clear hB0 hs1 hb1
  go_wp2_with fail
  refine (kwithin_yes s0 s6 _).mono ?_
  rintro e wx ⟨rfl, rfl⟩
  go_wp2_with fail
  refine (signed_any f m s _ h0 h7).mono ?_
  rintro e w2 ⟨rfl, hb2⟩
  have hs2 := hb2
  replace c_k_0 := cell_later hs2 c_k_0
  replace c_k_1 := cell_later hs2 c_k_1
  clear z_k
  have z_k := World.block_lt_of_cell? _ _ c_k_0
  have hB2 := below_two hB1 hs2
  clear hB1 hs2
  go_wp2
  go_ret2
  exact ⟨rfl, hB2⟩

theorem alter_any (f : Int) (m : Bool) (s : Int) (w : World) :
    Calls Tryd.prog 22 #[ky f m, .int .i64 s] w fun e w' => e = .returned (.tuple #[.int .i64 (Key.alt f s), .int .i64 (Key.eKS f s)]) ∧ Below w.heap.size w w' := by
  unfold Key.alt Key.eKS
  cases hf : Key.okF f
  · exact alter_no1 f m s w hf
  · obtain ⟨h0, h7⟩ := (Key.okF_iff f).1 hf
    by_cases hs : 0 ≤ s ∧ s ≤ 6
    · rw [decide_eq_true hs]
      exact alter_yes f m s w h0 h7 hs.1 hs.2
    · rw [decide_eq_false hs]
      exact alter_no2 f m s w h0 h7 hs

/-- So many copies of a byte. -/
def rep (c : Int) (b : UInt8) : List UInt8 := List.replicate c.toNat b
theorem rep_len {c : Int} (b : UInt8) (h1 : c ≤ 1) : (rep c b).length ≤ 1 := by unfold rep; rw [List.length_replicate]; omega
set_option maxRecDepth 100000 in
set_option maxHeartbeats 4000000 in
theorem repeat_any (b : UInt8) (c : Int) (w : World) (h0 : 0 ≤ c) (h1 : c ≤ 1) :
    Calls Tryd.prog 36 #[.string ⟨#[b]⟩, .int .i64 c] w fun e w' => e = .returned (.string ⟨(rep c b).toArray⟩) ∧ Below w.heap.size w w' := by
  obtain rfl | rfl : c = 0 ∨ c = 1 := by omega
  · go_enter Tryd.func36, Tryd.ntmps36
    go_wp2
    go_ret
    exact ⟨rfl, Below.refl _ _⟩
  · go_enter Tryd.func36, Tryd.ntmps36
    go_wp2
    go_ret
    exact ⟨rfl, Below.refl _ _⟩

set_option maxRecDepth 100000 in
set_option maxHeartbeats 4000000 in
theorem text_no (f : Int) (m : Bool) (w : World) (h : Key.okF f = false) :
    Calls Tryd.prog 18 #[ky f m] w fun e w' => e = .returned (.tuple #[.string ⟨#[]⟩, .int .i64 30]) ∧ Below w.heap.size w w' := by
  have hB0 : Below w.heap.size w w := Below.refl _ _
  go_enter Tryd.func18, Tryd.ntmps18
  go_wp2_with fail
  refine (kright_no m _ h).mono ?_
  rintro e w1 ⟨rfl, hb1⟩
  have hs1 : Below w.heap.size w w1 := Below.trans (by repeat (first | exact Below.refl _ _ | refine Below.alloc ?_ (by simp <;> omega) _)) (hb1.mono (by simp <;> omega))
  have c_k_0 : w1.cell? ⟨w.heap.size, 0, none⟩ = some (.int .i64 f) := (hb1.cell (by simp <;> omega)).trans (by go_simp)
  have c_k_1 : w1.cell? ⟨w.heap.size, 1, none⟩ = some (.bool m) := (hb1.cell (by simp <;> omega)).trans (by go_simp)
  have z_k := World.block_lt_of_cell? _ _ c_k_0
  have hB1 := below_two hB0 hs1
  clear hB0 hs1 hb1
  go_wp2
  go_ret2
  exact ⟨rfl, hB1⟩

set_option maxRecDepth 100000 in
set_option maxHeartbeats 4000000 in
theorem text_true (f : Int) (w : World) (h0 : -7 ≤ f) (h7 : f ≤ 7) (s a x y na : Int) (g : List UInt8) (HS : Hid (Key.st (Key.tp f true) = s)) (HA : Hid (Key.al (Key.tp f true) = a)) (s0 : 0 ≤ s) (s6 : s < 7) (hna : IntKind.i64.wrap (-a) = na) (hmx : (if a < 0 then 0 else a) = x) (hmy : (if na < 0 then 0 else na) = y) (x0 : 0 ≤ x) (x1 : x ≤ 1) (y0 : 0 ≤ y) (y1 : y ≤ 1) (hg : g.length ≤ 1) (hc : w.cell? ⟨0, s.toNat, none⟩ = some (.string ⟨g.toArray⟩)) :
    Calls Tryd.prog 18 #[ky f true] w fun e w' => e = .returned (.tuple #[.string ⟨(g ++ (rep x 35 ++ (rep y 98 ++ [32, 109, 105, 110, 111, 114]))).toArray⟩, .int .i64 0]) ∧ Below w.heap.size w w' := by
  have HT : Hid (∀ w, Calls Tryd.prog 35 #[ky f true] w fun e w' => e = .returned (pt s a 4) ∧ Below w.heap.size w w') := Lib.hid (fun w => by have := tonic_any f true w h0 h7; rw [HS.out, HA.out] at this; exact this)
  have hu : (rep x 35).length ≤ 1 := rep_len 35 x1
  have hv : (rep y 98).length ≤ 1 := rep_len 98 y1
  have a1 : ∀ w : World, (Op.stringOp .add ⟨g.toArray⟩ ⟨(rep x 35).toArray⟩).run Tryd.prog w = .ok (.string ⟨(g ++ rep x 35).toArray⟩) w := fun w => run_string_add_lists w g (rep x 35) (by omega) (by omega)
  have a2 : ∀ w : World, (Op.stringOp .add ⟨(g ++ rep x 35).toArray⟩ ⟨(rep y 98).toArray⟩).run Tryd.prog w = .ok (.string ⟨(g ++ (rep x 35 ++ rep y 98)).toArray⟩) w := fun w => by have := run_string_add_lists (P := Tryd.prog) w (g ++ rep x 35) (rep y 98) (by rw [List.length_append]; omega) (by omega); rw [List.append_assoc] at this; exact this
  have a3 : ∀ w : World, (Op.stringOp .add ⟨(g ++ (rep x 35 ++ rep y 98)).toArray⟩ ⟨#[32, 109, 105, 110, 111, 114]⟩).run Tryd.prog w = .ok (.string ⟨(g ++ (rep x 35 ++ (rep y 98 ++ [32, 109, 105, 110, 111, 114]))).toArray⟩) w := fun w => by have := run_string_add_lists (P := Tryd.prog) w (g ++ (rep x 35 ++ rep y 98)) [32, 109, 105, 110, 111, 114] (by rw [List.length_append, List.length_append]; omega) (by decide); rw [List.append_assoc, List.append_assoc] at this; exact this
  have hB0 : Below w.heap.size w w := Below.refl _ _
  go_enter Tryd.func18, Tryd.ntmps18
  go_wp2_with fail
  refine (kright_yes true _ h0 h7).mono ?_
  rintro e w1 ⟨rfl, hb1⟩
  have hs1 : Below w.heap.size w w1 := Below.trans (by repeat (first | exact Below.refl _ _ | refine Below.alloc ?_ (by simp <;> omega) _)) (hb1.mono (by simp <;> omega))
  have c_k_0 : w1.cell? ⟨w.heap.size, 0, none⟩ = some (.int .i64 f) := (hb1.cell (by simp <;> omega)).trans (by go_simp)
  have c_k_1 : w1.cell? ⟨w.heap.size, 1, none⟩ = some (.bool true) := (hb1.cell (by simp <;> omega)).trans (by go_simp)
  have z_k := World.block_lt_of_cell? _ _ c_k_0
  have hB1 := below_two hB0 hs1
  clear hB0 hs1 hb1
  go_wp2_with fail
  refine (HT.out _).mono ?_
  rintro e w2 ⟨rfl, hb2⟩
  have hs2 := hb2
  replace c_k_0 := cell_later hs2 c_k_0
  replace c_k_1 := cell_later hs2 c_k_1
  clear z_k
  have z_k := World.block_lt_of_cell? _ _ c_k_0
  have hB2 := below_two hB1 hs2
  clear hB1 hs2
  go_wp2_with fail
  have hs3 : Below w2.heap.size w2 (w2.alloc (.cells #[.int .i64 s, .int .i64 a, .int .i64 4] 42)) := by repeat (first | exact Below.refl _ _ | refine Below.alloc ?_ (by simp <;> omega) _)
  replace c_k_0 := cell_later hs3 c_k_0
  replace c_k_1 := cell_later hs3 c_k_1
  have c_p_0 : (w2.alloc (.cells #[.int .i64 s, .int .i64 a, .int .i64 4] 42)).cell? ⟨w2.heap.size, 0, none⟩ = some (.int .i64 s) := by go_simp
  have c_p_1 : (w2.alloc (.cells #[.int .i64 s, .int .i64 a, .int .i64 4] 42)).cell? ⟨w2.heap.size, 1, none⟩ = some (.int .i64 a) := by go_simp
  have c_p_2 : (w2.alloc (.cells #[.int .i64 s, .int .i64 a, .int .i64 4] 42)).cell? ⟨w2.heap.size, 2, none⟩ = some (.int .i64 4) := by go_simp
  have hB3 := below_two hB2 hs3
  clear hB2 hs3
  have y3_k := z_k
  generalize (w2.alloc (.cells #[.int .i64 s, .int .i64 a, .int .i64 4] 42)) = w3 at *
  clear z_k
  have z_k := World.block_lt_of_cell? _ _ c_k_0
  have z_p := World.block_lt_of_cell? _ _ c_p_0
  have c_g_0 := cell_later hB3 hc
  go_wp2_with fail
  have QB : Hid (∀ d os, Below w.heap.size w (Go.Sort.grow (redrawn w3 d) os)) := Lib.hid (fun d os => below_two hB3 (below_regrown w3 d os))
  have g_c_k_0 := fun d os => cell_regrown c_k_0 d os
  have g_c_k_1 := fun d os => cell_regrown c_k_1 d os
  have g_c_p_0 := fun d os => cell_regrown c_p_0 d os
  have g_c_p_1 := fun d os => cell_regrown c_p_1 d os
  have g_c_p_2 := fun d os => cell_regrown c_p_2 d os
  have g_c_g_0 := fun d os => cell_regrown c_g_0 d os
  have q0 : Hid (∀ d os (b : UInt8) (c : Int), 0 ≤ c → c ≤ 1 → Calls Tryd.prog 36 #[.string ⟨#[b]⟩, .int .i64 c] (Go.Sort.grow (redrawn w3 d) os) fun e w'' => e = .returned (.string ⟨(rep c b).toArray⟩) ∧ ∃ p : Regrown, w'' = Go.Sort.grow (redrawn w3 p.d) p.os) := Lib.hid (fun d os b c k0 k1 => Calls.regrown_of (repeat_any b c _ k0 k1))
  refine wp_region_quiet_below (by kernel_rfl) (by kernel_rfl) ?_
  repeat (quiet_step (first | exact q0.out _ _ _ _ (by assumption) (by assumption)))
  refine wpQuiet_nil ?_
  intro _ hw'
  obtain ⟨⟨dq, osq⟩, hw''⟩ := hw'
  subst hw''
  replace c_k_0 := g_c_k_0 dq osq
  clear g_c_k_0
  replace c_k_1 := g_c_k_1 dq osq
  clear g_c_k_1
  replace c_p_0 := g_c_p_0 dq osq
  clear g_c_p_0
  replace c_p_1 := g_c_p_1 dq osq
  clear g_c_p_1
  replace c_p_2 := g_c_p_2 dq osq
  clear g_c_p_2
  replace c_g_0 := g_c_g_0 dq osq
  clear g_c_g_0
  clear q0
  have hB4 := QB.out dq osq
  clear QB hB3 z_k z_p
  generalize Go.Sort.grow (redrawn w3 dq) osq = w4 at *
  have z_g := World.block_lt_of_cell? _ _ c_g_0
  have z_k := World.block_lt_of_cell? _ _ c_k_0
  have z_p := World.block_lt_of_cell? _ _ c_p_0
  go_wp2
  go_ret2
  exact ⟨rfl, hB4⟩

set_option maxRecDepth 100000 in
set_option maxHeartbeats 4000000 in
theorem text_false (f : Int) (w : World) (h0 : -7 ≤ f) (h7 : f ≤ 7) (s a x y na : Int) (g : List UInt8) (HS : Hid (Key.st (Key.tp f false) = s)) (HA : Hid (Key.al (Key.tp f false) = a)) (s0 : 0 ≤ s) (s6 : s < 7) (hna : IntKind.i64.wrap (-a) = na) (hmx : (if a < 0 then 0 else a) = x) (hmy : (if na < 0 then 0 else na) = y) (x0 : 0 ≤ x) (x1 : x ≤ 1) (y0 : 0 ≤ y) (y1 : y ≤ 1) (hg : g.length ≤ 1) (hc : w.cell? ⟨0, s.toNat, none⟩ = some (.string ⟨g.toArray⟩)) :
    Calls Tryd.prog 18 #[ky f false] w fun e w' => e = .returned (.tuple #[.string ⟨(g ++ (rep x 35 ++ (rep y 98 ++ [32, 109, 97, 106, 111, 114]))).toArray⟩, .int .i64 0]) ∧ Below w.heap.size w w' := by
  have HT : Hid (∀ w, Calls Tryd.prog 35 #[ky f false] w fun e w' => e = .returned (pt s a 4) ∧ Below w.heap.size w w') := Lib.hid (fun w => by have := tonic_any f false w h0 h7; rw [HS.out, HA.out] at this; exact this)
  have hu : (rep x 35).length ≤ 1 := rep_len 35 x1
  have hv : (rep y 98).length ≤ 1 := rep_len 98 y1
  have a1 : ∀ w : World, (Op.stringOp .add ⟨g.toArray⟩ ⟨(rep x 35).toArray⟩).run Tryd.prog w = .ok (.string ⟨(g ++ rep x 35).toArray⟩) w := fun w => run_string_add_lists w g (rep x 35) (by omega) (by omega)
  have a2 : ∀ w : World, (Op.stringOp .add ⟨(g ++ rep x 35).toArray⟩ ⟨(rep y 98).toArray⟩).run Tryd.prog w = .ok (.string ⟨(g ++ (rep x 35 ++ rep y 98)).toArray⟩) w := fun w => by have := run_string_add_lists (P := Tryd.prog) w (g ++ rep x 35) (rep y 98) (by rw [List.length_append]; omega) (by omega); rw [List.append_assoc] at this; exact this
  have a3 : ∀ w : World, (Op.stringOp .add ⟨(g ++ (rep x 35 ++ rep y 98)).toArray⟩ ⟨#[32, 109, 97, 106, 111, 114]⟩).run Tryd.prog w = .ok (.string ⟨(g ++ (rep x 35 ++ (rep y 98 ++ [32, 109, 97, 106, 111, 114]))).toArray⟩) w := fun w => by have := run_string_add_lists (P := Tryd.prog) w (g ++ (rep x 35 ++ rep y 98)) [32, 109, 97, 106, 111, 114] (by rw [List.length_append, List.length_append]; omega) (by decide); rw [List.append_assoc, List.append_assoc] at this; exact this
  have hB0 : Below w.heap.size w w := Below.refl _ _
  go_enter Tryd.func18, Tryd.ntmps18
  go_wp2_with fail
  refine (kright_yes false _ h0 h7).mono ?_
  rintro e w1 ⟨rfl, hb1⟩
  have hs1 : Below w.heap.size w w1 := Below.trans (by repeat (first | exact Below.refl _ _ | refine Below.alloc ?_ (by simp <;> omega) _)) (hb1.mono (by simp <;> omega))
  have c_k_0 : w1.cell? ⟨w.heap.size, 0, none⟩ = some (.int .i64 f) := (hb1.cell (by simp <;> omega)).trans (by go_simp)
  have c_k_1 : w1.cell? ⟨w.heap.size, 1, none⟩ = some (.bool false) := (hb1.cell (by simp <;> omega)).trans (by go_simp)
  have z_k := World.block_lt_of_cell? _ _ c_k_0
  have hB1 := below_two hB0 hs1
  clear hB0 hs1 hb1
  go_wp2_with fail
  refine (HT.out _).mono ?_
  rintro e w2 ⟨rfl, hb2⟩
  have hs2 := hb2
  replace c_k_0 := cell_later hs2 c_k_0
  replace c_k_1 := cell_later hs2 c_k_1
  clear z_k
  have z_k := World.block_lt_of_cell? _ _ c_k_0
  have hB2 := below_two hB1 hs2
  clear hB1 hs2
  go_wp2_with fail
  have hs3 : Below w2.heap.size w2 (w2.alloc (.cells #[.int .i64 s, .int .i64 a, .int .i64 4] 42)) := by repeat (first | exact Below.refl _ _ | refine Below.alloc ?_ (by simp <;> omega) _)
  replace c_k_0 := cell_later hs3 c_k_0
  replace c_k_1 := cell_later hs3 c_k_1
  have c_p_0 : (w2.alloc (.cells #[.int .i64 s, .int .i64 a, .int .i64 4] 42)).cell? ⟨w2.heap.size, 0, none⟩ = some (.int .i64 s) := by go_simp
  have c_p_1 : (w2.alloc (.cells #[.int .i64 s, .int .i64 a, .int .i64 4] 42)).cell? ⟨w2.heap.size, 1, none⟩ = some (.int .i64 a) := by go_simp
  have c_p_2 : (w2.alloc (.cells #[.int .i64 s, .int .i64 a, .int .i64 4] 42)).cell? ⟨w2.heap.size, 2, none⟩ = some (.int .i64 4) := by go_simp
  have hB3 := below_two hB2 hs3
  clear hB2 hs3
  have y3_k := z_k
  generalize (w2.alloc (.cells #[.int .i64 s, .int .i64 a, .int .i64 4] 42)) = w3 at *
  clear z_k
  have z_k := World.block_lt_of_cell? _ _ c_k_0
  have z_p := World.block_lt_of_cell? _ _ c_p_0
  have c_g_0 := cell_later hB3 hc
  go_wp2_with fail
  have QB : Hid (∀ d os, Below w.heap.size w (Go.Sort.grow (redrawn w3 d) os)) := Lib.hid (fun d os => below_two hB3 (below_regrown w3 d os))
  have g_c_k_0 := fun d os => cell_regrown c_k_0 d os
  have g_c_k_1 := fun d os => cell_regrown c_k_1 d os
  have g_c_p_0 := fun d os => cell_regrown c_p_0 d os
  have g_c_p_1 := fun d os => cell_regrown c_p_1 d os
  have g_c_p_2 := fun d os => cell_regrown c_p_2 d os
  have g_c_g_0 := fun d os => cell_regrown c_g_0 d os
  have q0 : Hid (∀ d os (b : UInt8) (c : Int), 0 ≤ c → c ≤ 1 → Calls Tryd.prog 36 #[.string ⟨#[b]⟩, .int .i64 c] (Go.Sort.grow (redrawn w3 d) os) fun e w'' => e = .returned (.string ⟨(rep c b).toArray⟩) ∧ ∃ p : Regrown, w'' = Go.Sort.grow (redrawn w3 p.d) p.os) := Lib.hid (fun d os b c k0 k1 => Calls.regrown_of (repeat_any b c _ k0 k1))
  refine wp_region_quiet_below (by kernel_rfl) (by kernel_rfl) ?_
  repeat (quiet_step (first | exact q0.out _ _ _ _ (by assumption) (by assumption)))
  refine wpQuiet_nil ?_
  intro _ hw'
  obtain ⟨⟨dq, osq⟩, hw''⟩ := hw'
  subst hw''
  replace c_k_0 := g_c_k_0 dq osq
  clear g_c_k_0
  replace c_k_1 := g_c_k_1 dq osq
  clear g_c_k_1
  replace c_p_0 := g_c_p_0 dq osq
  clear g_c_p_0
  replace c_p_1 := g_c_p_1 dq osq
  clear g_c_p_1
  replace c_p_2 := g_c_p_2 dq osq
  clear g_c_p_2
  replace c_g_0 := g_c_g_0 dq osq
  clear g_c_g_0
  clear q0
  have hB4 := QB.out dq osq
  clear QB hB3 z_k z_p
  generalize Go.Sort.grow (redrawn w3 dq) osq = w4 at *
  have z_g := World.block_lt_of_cell? _ _ c_g_0
  have z_k := World.block_lt_of_cell? _ _ c_k_0
  have z_p := World.block_lt_of_cell? _ _ c_p_0
  go_wp2
  go_ret2
  exact ⟨rfl, hB4⟩

theorem leB_len (s : Int) : (Key.leB s).length ≤ 1 := by
  unfold Key.leB
  rw [List.getD_eq_getElem?_getD]
  cases h : ([[67], [68], [69], [70], [71], [65], [66]] : List (List UInt8))[s.toNat]? with
  | none => simp
  | some l =>
    have := List.mem_of_getElem? h
    simp at this
    rcases this with rfl | rfl | rfl | rfl | rfl | rfl | rfl <;> simp
theorem text_any (f : Int) (m : Bool) (w : World) (hR : Lett w) :
    Calls Tryd.prog 18 #[ky f m] w fun e w' => e = .returned (.tuple #[.string ⟨(Key.txE f m).toArray⟩, .int .i64 (Key.eK f)]) ∧ Below w.heap.size w w' := by
  unfold Key.txE Key.eK
  cases hf : Key.okF f
  · exact text_no f m w hf
  · obtain ⟨h0, h7⟩ := (Key.okF_iff f).1 hf
    have hs := Key.st_bounds (Key.tp f m)
    have ht := Key.tp_bounds (m := m) h0 h7
    have ha := Key.al_tonic (show -8 ≤ Key.tp f m by omega) (show Key.tp f m ≤ 12 by omega)
    have hx : (if Key.al (Key.tp f m) < 0 then 0 else Key.al (Key.tp f m)) = (if Key.al (Key.tp f m) < 0 then 0 else Key.al (Key.tp f m)) := rfl
    have e1 : Key.shB (Key.al (Key.tp f m)) = rep (if Key.al (Key.tp f m) < 0 then 0 else Key.al (Key.tp f m)) 35 := by unfold Key.shB rep; congr 1; split <;> omega
    have e2 : Key.flB (Key.al (Key.tp f m)) = rep (if -Key.al (Key.tp f m) < 0 then 0 else -Key.al (Key.tp f m)) 98 := by unfold Key.flB rep; congr 1; split <;> omega
    have key : Key.tx f m = Key.leB (Key.st (Key.tp f m)) ++ (rep (if Key.al (Key.tp f m) < 0 then 0 else Key.al (Key.tp f m)) 35 ++ (rep (if -Key.al (Key.tp f m) < 0 then 0 else -Key.al (Key.tp f m)) 98 ++ Key.moB m)) := by
      unfold Key.tx; rw [e1, e2, List.append_assoc, List.append_assoc]
    rw [if_pos rfl, if_pos rfl, key]
    cases m
    · exact text_false f w h0 h7 _ _ _ _ _ _ (Lib.hid rfl) (Lib.hid rfl) hs.1 (by omega) (IntWalk.i64_in _ (by omega)) rfl rfl (by split <;> omega) (by split <;> omega) (by split <;> omega) (by split <;> omega) (leB_len _) (hR.lettI hs.1 hs.2)
    · exact text_true f w h0 h7 _ _ _ _ _ _ (Lib.hid rfl) (Lib.hid rfl) hs.1 (by omega) (IntWalk.i64_in _ (by omega)) rfl rfl (by split <;> omega) (by split <;> omega) (by split <;> omega) (by split <;> omega) (leB_len _) (hR.lettI hs.1 hs.2)
end Go.Proofs.YtahcbgngdpjhkaaDoor
