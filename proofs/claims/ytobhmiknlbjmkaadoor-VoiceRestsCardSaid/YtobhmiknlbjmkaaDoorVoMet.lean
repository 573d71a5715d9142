/-
  Out of layer 5: the contracts of meter.Right and Length.
-/
import Derived.Test.YtobhmiknlbjmkaaDoorMetMath
import Derived.Test.YtobhmiknlbjmkaaDoorVoRat
namespace Go.Proofs.YtobhmiknlbjmkaaDoor.Mtr
open Go.RowKit Go.Proofs.YtobhmiknlbjmkaaDoor.Rat

/-- A meter and a ratio, as values of Go's. -/
abbrev mt (n d : Int) (v : Value) : Value := .agg #[.int .i64 n, .int .i64 d, v]

abbrev rvp (p : Met.Pr) (e : Int) : Value := .tuple #[.agg #[.int .i64 p.1, .int .i64 p.2], .int .i64 e]

/-- A list of numbers in memory, which a round that keeps what lies below n₀, and rows of numbers, leaves as it is. -/
def IntsK (n₀ : Nat) (W : World) (v : Value) (gs : List Int) : Prop :=
  ∃ p cap, v = .slice p gs.length cap ∧ gs.length ≤ 140737488355328 ∧ ∀ (i : Nat) (x : Int), gs[i]? = some x → ∃ b o, p = some ⟨b, o, none⟩ ∧ W.cell? ⟨b, o + i, none⟩ = some (.int .i64 x) ∧ (b < n₀ ∨ ∃ cur f, W.heap[b]? = some (.cells cur 3 f))

def Ints (W : World) (v : Value) (gs : List Int) : Prop :=
  ∃ p cap, v = .slice p gs.length cap ∧ gs.length ≤ 140737488355328 ∧ ∀ (i : Nat) (x : Int), gs[i]? = some x → ∃ b o, p = some ⟨b, o, none⟩ ∧ W.cell? ⟨b, o + i, none⟩ = some (.int .i64 x)

theorem Ints.later {W W' : World} {v : Value} {gs : List Int} (h : Ints W v gs) (hb : Below W.heap.size W W') : Ints W' v gs := by
  obtain ⟨p, cap, rfl, hl, hc⟩ := h
  exact ⟨p, cap, rfl, hl, fun i x hx => let ⟨b, o, e, c⟩ := hc i x hx; ⟨b, o, e, cell_later hb c⟩⟩

/-- What a round keeps. -/
structure KI (n₀ : Nat) (W W' : World) : Prop where
  below : Below n₀ W W'
  typed : ∀ (k : Nat) (cur : Array Value) (t : TypeId) (f : Nat × Nat), t = 3 ∨ t = 61 → W.heap[k]? = some (.cells cur t f) → W'.heap[k]? = some (.cells cur t f)

theorem KI.refl (n₀ : Nat) (W : World) : KI n₀ W W := ⟨Below.refl _ _, fun _ _ _ _ _ h => h⟩

theorem IntsK.later {n₀ : Nat} {W W' : World} {v : Value} {gs : List Int} (h : IntsK n₀ W v gs) (hb : Below W.heap.size W W') : IntsK n₀ W' v gs := by
  obtain ⟨p, cap, rfl, hl, hc⟩ := h
  exact ⟨p, cap, rfl, hl, fun i x hx => let ⟨b, o, e, c, hx⟩ := hc i x hx; ⟨b, o, e, cell_later hb c, hx.imp id (fun ⟨cur, f, hf⟩ => ⟨cur, f, (hb.block b (Array.getElem?_eq_some_iff.1 hf).1).trans hf⟩)⟩⟩

/-- A list of ratios in memory. -/
def Prs (W : World) (v : Value) (l : List Met.Pr) : Prop :=
  ∃ p cap, v = .slice p l.length cap ∧ l.length ≤ 1000000 ∧ ∀ (i : Nat) (x : Met.Pr), l[i]? = some x → ∃ b o, p = some ⟨b, o, none⟩ ∧ W.cell? ⟨b, o + i * 2, none⟩ = some (.int .i64 x.1) ∧ W.cell? ⟨b, o + i * 2 + 1, none⟩ = some (.int .i64 x.2)

theorem Prs.later {W W' : World} {v : Value} {l : List Met.Pr} (h : Prs W v l) (hb : Below W.heap.size W W') : Prs W' v l := by
  obtain ⟨p, cap, rfl, hl, hc⟩ := h
  exact ⟨p, cap, rfl, hl, fun i x hx => let ⟨b, o, e, c, c'⟩ := hc i x hx; ⟨b, o, e, cell_later hb c, cell_later hb c'⟩⟩

theorem mwithin_any (n l m : Int) (w : World) :
    Calls Tryd.prog 60 #[.int .i64 n, .int .i64 l, .int .i64 m] w fun e w' => e = .returned (.bool (decide (l ≤ n ∧ n ≤ m))) ∧ w = w' := by
  by_cases h1 : l ≤ n
  · by_cases h2 : n ≤ m
    · rw [decide_eq_true (⟨h1, h2⟩ : l ≤ n ∧ n ≤ m)]
      go_enter Tryd.func60, Tryd.ntmps60
      go_wp2
      go_ret
      exact ⟨ret_bool (by simp [*]), rfl⟩
    · rw [decide_eq_false (fun h : l ≤ n ∧ n ≤ m => h2 h.2)]
      go_enter Tryd.func60, Tryd.ntmps60
      go_wp2
      go_ret
      exact ⟨ret_bool (by simp [*]), rfl⟩
  · rw [decide_eq_false (fun h : l ≤ n ∧ n ≤ m => h1 h.1)]
    go_enter Tryd.func60, Tryd.ntmps60
    go_wp2
    go_ret
    exact ⟨ret_bool (by simp [*]), rfl⟩

set_option maxRecDepth 100000 in
set_option maxHeartbeats 4000000 in
theorem written_any (d : Int) (w : World) :
    Calls Tryd.prog 61 #[.int .i64 d] w fun ed w' => ed = .returned (.bool (Met.okD d)) ∧ w = w' := by
  cases h : Met.okD d
  · have hn : ¬ _ := fun x => Bool.false_ne_true (h.symm.trans ((Met.okD_iff d).2 x))
    have h1 : d ≠ 1 := fun e => hn (by omega)
    have h2 : d ≠ 2 := fun e => hn (by omega)
    have h3 : d ≠ 4 := fun e => hn (by omega)
    have h4 : d ≠ 8 := fun e => hn (by omega)
    have h5 : d ≠ 16 := fun e => hn (by omega)
    have h6 : d ≠ 32 := fun e => hn (by omega)
    have h7 : d ≠ 64 := fun e => hn (by omega)
    clear h hn
    go_enter Tryd.func61, Tryd.ntmps61
    go_wp2
    go_ret
    exact ⟨rfl, rfl⟩
  · rcases (Met.okD_iff d).1 h with rfl | rfl | rfl | rfl | rfl | rfl | rfl
    all_goals clear h
    all_goals go_enter Tryd.func61, Tryd.ntmps61
    all_goals go_wp2
    all_goals go_ret
    all_goals exact ⟨rfl, rfl⟩

def FilRel (n : Int) (gs : List Int) (a i : Value) : Prop := ∃ k : Nat, k ≤ gs.length ∧ i = .int .i64 (k : Int) ∧ a = .int .i64 (n - Met.ah gs k) ∧ (∀ g ∈ gs.take k, 1 ≤ g) ∧ 0 ≤ n - Met.ah gs k ∧ n - Met.ah gs k ≤ 32

set_option maxRecDepth 100000 in
set_option maxHeartbeats 4000000 in
theorem filled_any (n d : Int) (v : Value) (gs : List Int) (w : World) (hI : Ints w v gs) (n1 : 1 ≤ n) (n32 : n ≤ 32) :
    Calls Tryd.prog 62 #[mt n d v] w fun ed w' => ed = .returned (.bool (Met.okG n gs)) ∧ Below w.heap.size w w' := by
  obtain ⟨p, cap, rfl, hl, hc⟩ := hI
  have hB0 : Below w.heap.size w w := Below.refl _ _
  go_enter Tryd.func62, Tryd.ntmps62
  go_wp2_with fail
  have hs1 : Below w.heap.size w (w.alloc (.cells #[.int .i64 n, .int .i64 d, .slice p gs.length cap] 61)) := by repeat (first | exact Below.refl _ _ | refine Below.alloc ?_ (by simp <;> omega) _)
  have c_m_0 : (w.alloc (.cells #[.int .i64 n, .int .i64 d, .slice p gs.length cap] 61)).cell? ⟨w.heap.size, 0, none⟩ = some (.int .i64 n) := by go_simp
  have c_m_1 : (w.alloc (.cells #[.int .i64 n, .int .i64 d, .slice p gs.length cap] 61)).cell? ⟨w.heap.size, 1, none⟩ = some (.int .i64 d) := by go_simp
  have c_m_2 : (w.alloc (.cells #[.int .i64 n, .int .i64 d, .slice p gs.length cap] 61)).cell? ⟨w.heap.size, 2, none⟩ = some (.slice p gs.length cap) := by go_simp
  have hB1 := below_two hB0 hs1
  clear hB0 hs1
  generalize (w.alloc (.cells #[.int .i64 n, .int .i64 d, .slice p gs.length cap] 61)) = w1 at *
  have z_m := World.block_lt_of_cell? _ _ c_m_0
  have HC : Hid (∀ (i : Nat) (x : Int), gs[i]? = some x → ∃ b o, p = some ⟨b, o, none⟩ ∧ w1.cell? ⟨b, o + i, none⟩ = some (.int .i64 x)) := Lib.hid fun i x hx => let ⟨b, o, e, c⟩ := hc i x hx; ⟨b, o, e, cell_later hB1 c⟩
  clear hc
  go_loop [3, 11] (FilRel n gs) (fun _ i => gs.length - (intOf i).toNat)
  case atStart => exact ⟨0, Nat.zero_le _, rfl, by rw [Met.ah_zero]; simp, by simp, by rw [Met.ah_zero]; omega, by rw [Met.ah_zero]; omega⟩
  case round =>
    obtain ⟨k, hk, rfl, rfl, hp, h0, h32⟩ := hrel
    have HP := Lib.hid hp
    clear hp
    obtain ⟨L, HL⟩ : ∃ L, Hid (n - Met.ah gs k = L) := ⟨_, Lib.hid rfl⟩
    rw [HL.out] at h0 h32 ⊢
    by_cases hlt : k < gs.length
    · obtain ⟨x, hx⟩ : ∃ x, gs[k]? = some x := ⟨_, List.getElem?_eq_getElem hlt⟩
      obtain ⟨b, o, rfl, hcell⟩ := HC.out k x hx
      have HX := Lib.hid hx
      clear hx
      by_cases hok : 1 ≤ x ∧ x ≤ L
      · obtain ⟨hx1, hx2⟩ := hok
        have hw := mwithin_any x 1 L
        rw [decide_eq_true (⟨hx1, hx2⟩ : 1 ≤ x ∧ x ≤ L)] at hw
        have HW := Lib.hid hw
        clear hw
        go_wp2_with (go_at_call 60; refine (HW.out _).mono ?_; rintro e w' ⟨rfl, rfl⟩)
        refine ⟨⟨k + 1, by omega, by go_num, ?_, ?_, ?_, ?_⟩, by simp [intOf]; omega⟩
        · rw [Met.ah_succ HX.out, ← HL.out]; congr 1; omega
        · rw [Met.take_succ_at HX.out]; intro g hg; rcases List.mem_append.1 hg with h | h
          · exact HP.out g h
          · simp at h; omega
        · rw [Met.ah_succ HX.out]; have := HL.out; omega
        · rw [Met.ah_succ HX.out]; have := HL.out; omega
      · have hw := mwithin_any x 1 L
        rw [decide_eq_false hok] at hw
        have HW := Lib.hid hw
        clear hw
        have HE : Hid (Met.okG n gs = false) := Lib.hid (Met.okG_no HX.out (by have := HL.out; omega))
        clear hok
        go_wp2_with (go_at_call 60; refine (HW.out _).mono ?_; rintro e w' ⟨rfl, rfl⟩)
        go_ret
        exact ⟨ret_bool HE.out.symm, hB1⟩
    · obtain rfl : k = gs.length := by omega
      rw [List.take_length] at HP
      have HE : Hid (Met.okG n gs = ((gs.length : Int) == 0 || L == 0)) := Lib.hid (by rw [Met.okG_end HP.out, HL.out])
      clear HC
      by_cases hz : gs.length = 0
      · have hz1 : ((gs.length : Int) == 0) = true := beq_iff_eq.2 (by omega)
        have HE1 : Hid (Met.okG n gs = true) := Lib.hid (by rw [HE.out, hz1]; rfl)
        go_wp2
        go_ret
        exact ⟨ret_bool HE1.out.symm, hB1⟩
      · have hz1 : ((gs.length : Int) == 0) = false := beq_eq_false_iff_ne.2 (by omega)
        have HE1 : Hid (Met.okG n gs = (L == 0)) := Lib.hid (by rw [HE.out, hz1]; rfl)
        go_wp2
        go_ret
        exact ⟨ret_bool HE1.out.symm, hB1⟩

set_option maxRecDepth 100000 in
set_option maxHeartbeats 4000000 in
theorem mright_1 (n d : Int) (v : Value) (w : World) (h : Met.okN n = false) :
    Calls Tryd.prog 38 #[mt n d v] w fun ed w' => ed = .returned (.bool false) ∧ Below w.heap.size w w' := by
  have hw := mwithin_any n 1 32
  unfold Met.okN at h
  rw [h] at hw
  clear h
  have HW := Lib.hid hw
  clear hw
  go_enter Tryd.func38, Tryd.ntmps38
  go_wp2_with (first | (go_at_call 60; refine (HW.out _).mono ?_; rintro e w' ⟨rfl, rfl⟩))
  go_ret
  exact ⟨rfl, (by repeat (first | exact Below.refl _ _ | refine below_drewN ?_ _ | refine Below.drew ?_ | refine Below.setCell ?_ (by simp <;> omega) _ | refine Below.alloc ?_ (by simp <;> omega) _))⟩

set_option maxRecDepth 100000 in
set_option maxHeartbeats 4000000 in
theorem mright_2 (n d : Int) (v : Value) (w : World) (h : Met.okN n = true) (h2 : Met.okD d = false) :
    Calls Tryd.prog 38 #[mt n d v] w fun ed w' => ed = .returned (.bool false) ∧ Below w.heap.size w w' := by
  have hw := mwithin_any n 1 32
  unfold Met.okN at h
  rw [h] at hw
  clear h
  have HW := Lib.hid hw
  clear hw
  have hd := written_any d
  rw [h2] at hd
  have HD := Lib.hid hd
  clear hd h2
  go_enter Tryd.func38, Tryd.ntmps38
  go_wp2_with (first | (go_at_call 60; refine (HW.out _).mono ?_; rintro e w' ⟨rfl, rfl⟩) | (go_at_call 61; refine (HD.out _).mono ?_; rintro e w' ⟨rfl, rfl⟩))
  go_ret
  exact ⟨rfl, (by repeat (first | exact Below.refl _ _ | refine below_drewN ?_ _ | refine Below.drew ?_ | refine Below.setCell ?_ (by simp <;> omega) _ | refine Below.alloc ?_ (by simp <;> omega) _))⟩

set_option maxRecDepth 100000 in
set_option maxHeartbeats 4000000 in
theorem mright_3 (n d : Int) (v : Value) (gs : List Int) (w : World) (hI : Ints w v gs) (h : Met.okN n = true) (h2 : Met.okD d = true) :
    Calls Tryd.prog 38 #[mt n d v] w fun ed w' => ed = .returned (.bool (Met.okG n gs)) ∧ Below w.heap.size w w' := by
  have hn : 1 ≤ n ∧ n ≤ 32 := by unfold Met.okN at h; exact of_decide_eq_true h
  have hw := mwithin_any n 1 32
  unfold Met.okN at h
  rw [h] at hw
  clear h
  have HW := Lib.hid hw
  clear hw
  have hd := written_any d
  rw [h2] at hd
  have HD := Lib.hid hd
  clear hd h2
  obtain ⟨n1, n32⟩ := hn
  obtain ⟨p, cap, rfl, hl, hc⟩ := hI
  have HI : Hid (Ints w (.slice p gs.length cap) gs) := Lib.hid ⟨p, cap, rfl, hl, hc⟩
  clear hl hc
  have hB0 : Below w.heap.size w w := Below.refl _ _
  go_enter Tryd.func38, Tryd.ntmps38
  go_wp2_with fail
  have hs1 : Below w.heap.size w (w.alloc (.cells #[.int .i64 n, .int .i64 d, .slice p gs.length cap] 61)) := by repeat (first | exact Below.refl _ _ | refine Below.alloc ?_ (by simp <;> omega) _)
  have c_m_0 : (w.alloc (.cells #[.int .i64 n, .int .i64 d, .slice p gs.length cap] 61)).cell? ⟨w.heap.size, 0, none⟩ = some (.int .i64 n) := by go_simp
  have c_m_1 : (w.alloc (.cells #[.int .i64 n, .int .i64 d, .slice p gs.length cap] 61)).cell? ⟨w.heap.size, 1, none⟩ = some (.int .i64 d) := by go_simp
  have c_m_2 : (w.alloc (.cells #[.int .i64 n, .int .i64 d, .slice p gs.length cap] 61)).cell? ⟨w.heap.size, 2, none⟩ = some (.slice p gs.length cap) := by go_simp
  have hB1 := below_two hB0 hs1
  clear hB0 hs1
  generalize (w.alloc (.cells #[.int .i64 n, .int .i64 d, .slice p gs.length cap] 61)) = w1 at *
  have z_m := World.block_lt_of_cell? _ _ c_m_0
  have HI1 := Lib.hid (HI.out.later hB1)
  clear HI
  go_wp2_with (first | (go_at_call 60; refine (HW.out _).mono ?_; rintro e w' ⟨rfl, rfl⟩) | (go_at_call 61; refine (HD.out _).mono ?_; rintro e w' ⟨rfl, rfl⟩))
  refine (filled_any n d _ gs _ HI1.out n1 n32).mono ?_
  rintro e w2 ⟨rfl, hb⟩
  go_wp2
  go_ret
  exact ⟨rfl, below_two hB1 hb⟩

theorem mright_any (n d : Int) (v : Value) (gs : List Int) (w : World) (hI : Ints w v gs) :
    Calls Tryd.prog 38 #[mt n d v] w fun ed w' => ed = .returned (.bool (Met.right n d gs)) ∧ Below w.heap.size w w' := by
  unfold Met.right
  cases h : Met.okN n
  · exact mright_1 n d v w h
  cases h2 : Met.okD d
  · exact mright_2 n d v w h h2
  · exact mright_3 n d v gs w hI h h2

theorem mright_is {n d : Int} {v : Value} {gs : List Int} {w : World} (hI : Ints w v gs) {b : Bool} (h : Met.right n d gs = b) :
    Calls Tryd.prog 38 #[mt n d v] w fun ed w' => ed = .returned (.bool b) ∧ Below w.heap.size w w' := by
  have := mright_any n d v gs w hI
  rw [h] at this
  exact this

def lenP (n d : Int) (gs : List Int) : Met.Pr := if Met.right n d gs then Met.of n d else (0, 0)

def lenE (n d : Int) (gs : List Int) : Int := if Met.right n d gs then 0 else 50

theorem ofP_any {n d : Int} (hd1 : 1 ≤ d) (hd2 : d ≤ 1000000000) (hn1 : -1000000000 ≤ n) (hn2 : n ≤ 1000000000) (w : World) :
    Calls Tryd.prog 18 #[.int .i64 n, .int .i64 d] w fun ed w' => ed = .returned (rvp (Met.of n d) 0) ∧ Below w.heap.size w w' := by
  have h := of_any n d w (i64_small hn1 hn2) (i64_small (by omega) hd2)
  rw [Met.of_small hd1 hd2 hn1 hn2] at h
  exact h

set_option maxRecDepth 100000 in
set_option maxHeartbeats 4000000 in
theorem mlength_0 (n d : Int) (v : Value) (gs : List Int) (w : World) (hI : Ints w v gs) (h : Met.right n d gs = false) :
    Calls Tryd.prog 21 #[mt n d v] w fun ed w' => ed = .returned (rvp (0, 0) 50) ∧ Below w.heap.size w w' := by
  obtain ⟨p, cap, rfl, hl, hc⟩ := hI
  have HI : Hid (Ints w (.slice p gs.length cap) gs) := Lib.hid ⟨p, cap, rfl, hl, hc⟩
  clear hl hc
  have hB0 : Below w.heap.size w w := Below.refl _ _
  go_enter Tryd.func21, Tryd.ntmps21
  go_wp2_with fail
  have hs1 : Below w.heap.size w ((w.alloc (.cells #[.int .i64 n, .int .i64 d, .slice p gs.length cap] 61)).alloc (.cells #[.int .i64 0, .int .i64 0] 36)) := by repeat (first | exact Below.refl _ _ | refine Below.alloc ?_ (by simp <;> omega) _)
  have c_m_0 : ((w.alloc (.cells #[.int .i64 n, .int .i64 d, .slice p gs.length cap] 61)).alloc (.cells #[.int .i64 0, .int .i64 0] 36)).cell? ⟨w.heap.size, 0, none⟩ = some (.int .i64 n) := by go_simp
  have c_m_1 : ((w.alloc (.cells #[.int .i64 n, .int .i64 d, .slice p gs.length cap] 61)).alloc (.cells #[.int .i64 0, .int .i64 0] 36)).cell? ⟨w.heap.size, 1, none⟩ = some (.int .i64 d) := by go_simp
  have c_m_2 : ((w.alloc (.cells #[.int .i64 n, .int .i64 d, .slice p gs.length cap] 61)).alloc (.cells #[.int .i64 0, .int .i64 0] 36)).cell? ⟨w.heap.size, 2, none⟩ = some (.slice p gs.length cap) := by go_simp
  have c_r_0 : ((w.alloc (.cells #[.int .i64 n, .int .i64 d, .slice p gs.length cap] 61)).alloc (.cells #[.int .i64 0, .int .i64 0] 36)).cell? ⟨w.heap.size + 1, 0, none⟩ = some (.int .i64 0) := by go_simp
  have f_r_0 : ((w.alloc (.cells #[.int .i64 n, .int .i64 d, .slice p gs.length cap] 61)).alloc (.cells #[.int .i64 0, .int .i64 0] 36)).frozen? ⟨w.heap.size + 1, 0, none⟩ = false := by go_simp
  have c_r_1 : ((w.alloc (.cells #[.int .i64 n, .int .i64 d, .slice p gs.length cap] 61)).alloc (.cells #[.int .i64 0, .int .i64 0] 36)).cell? ⟨w.heap.size + 1, 1, none⟩ = some (.int .i64 0) := by go_simp
  have f_r_1 : ((w.alloc (.cells #[.int .i64 n, .int .i64 d, .slice p gs.length cap] 61)).alloc (.cells #[.int .i64 0, .int .i64 0] 36)).frozen? ⟨w.heap.size + 1, 1, none⟩ = false := by go_simp
  have hB1 := below_two hB0 hs1
  clear hB0 hs1
  generalize ((w.alloc (.cells #[.int .i64 n, .int .i64 d, .slice p gs.length cap] 61)).alloc (.cells #[.int .i64 0, .int .i64 0] 36)) = w1 at *
  have z_m := World.block_lt_of_cell? _ _ c_m_0
  have z_r := World.block_lt_of_cell? _ _ c_r_0
  have HI1 := Lib.hid (HI.out.later hB1)
  clear HI
  go_wp2_with fail
  refine (mright_is HI1.out h).mono ?_
  rintro e w2 ⟨rfl, hb2⟩
  have hs2 := hb2
  replace c_m_0 := cell_later hs2 c_m_0
  replace c_m_1 := cell_later hs2 c_m_1
  replace c_m_2 := cell_later hs2 c_m_2
  replace f_r_0 := frozen_later hs2 c_r_0 f_r_0
  replace c_r_0 := cell_later hs2 c_r_0
  replace f_r_1 := frozen_later hs2 c_r_1 f_r_1
  replace c_r_1 := cell_later hs2 c_r_1
  clear z_m
  have z_m := World.block_lt_of_cell? _ _ c_m_0
  clear z_r
  have z_r := World.block_lt_of_cell? _ _ c_r_0
  have hB2 := below_two hB1 hs2
  clear hB1 hs2
  obtain ⟨m0, m1⟩ := put2_of (x := .int .i64 0) (y := .int .i64 0) c_r_0 c_r_1
  go_wp2
  exact bodyPost_ret (v := rvp (0, 0) 50) (by simp [results, Tryd.results21, go_sem, m0, m1]) rfl ⟨rfl, put2_below hB2 (by omega)⟩

set_option maxRecDepth 100000 in
set_option maxHeartbeats 4000000 in
theorem mlength_1 (n d : Int) (v : Value) (gs : List Int) (w : World) (hI : Ints w v gs) (h : Met.right n d gs = true) :
    Calls Tryd.prog 21 #[mt n d v] w fun ed w' => ed = .returned (rvp (Met.of n d) 0) ∧ Below w.heap.size w w' := by
  obtain ⟨p, cap, rfl, hl, hc⟩ := hI
  have HI : Hid (Ints w (.slice p gs.length cap) gs) := Lib.hid ⟨p, cap, rfl, hl, hc⟩
  clear hl hc
  have hr := Met.isRight h
  have n1 := hr.n1
  have n2 := hr.n32
  have d1 := hr.d1
  have d2 := hr.d64
  clear hr
  have hB0 : Below w.heap.size w w := Below.refl _ _
  go_enter Tryd.func21, Tryd.ntmps21
  go_wp2_with fail
  have hs1 : Below w.heap.size w ((w.alloc (.cells #[.int .i64 n, .int .i64 d, .slice p gs.length cap] 61)).alloc (.cells #[.int .i64 0, .int .i64 0] 36)) := by repeat (first | exact Below.refl _ _ | refine Below.alloc ?_ (by simp <;> omega) _)
  have c_m_0 : ((w.alloc (.cells #[.int .i64 n, .int .i64 d, .slice p gs.length cap] 61)).alloc (.cells #[.int .i64 0, .int .i64 0] 36)).cell? ⟨w.heap.size, 0, none⟩ = some (.int .i64 n) := by go_simp
  have c_m_1 : ((w.alloc (.cells #[.int .i64 n, .int .i64 d, .slice p gs.length cap] 61)).alloc (.cells #[.int .i64 0, .int .i64 0] 36)).cell? ⟨w.heap.size, 1, none⟩ = some (.int .i64 d) := by go_simp
  have c_m_2 : ((w.alloc (.cells #[.int .i64 n, .int .i64 d, .slice p gs.length cap] 61)).alloc (.cells #[.int .i64 0, .int .i64 0] 36)).cell? ⟨w.heap.size, 2, none⟩ = some (.slice p gs.length cap) := by go_simp
  have c_r_0 : ((w.alloc (.cells #[.int .i64 n, .int .i64 d, .slice p gs.length cap] 61)).alloc (.cells #[.int .i64 0, .int .i64 0] 36)).cell? ⟨w.heap.size + 1, 0, none⟩ = some (.int .i64 0) := by go_simp
  have f_r_0 : ((w.alloc (.cells #[.int .i64 n, .int .i64 d, .slice p gs.length cap] 61)).alloc (.cells #[.int .i64 0, .int .i64 0] 36)).frozen? ⟨w.heap.size + 1, 0, none⟩ = false := by go_simp
  have c_r_1 : ((w.alloc (.cells #[.int .i64 n, .int .i64 d, .slice p gs.length cap] 61)).alloc (.cells #[.int .i64 0, .int .i64 0] 36)).cell? ⟨w.heap.size + 1, 1, none⟩ = some (.int .i64 0) := by go_simp
  have f_r_1 : ((w.alloc (.cells #[.int .i64 n, .int .i64 d, .slice p gs.length cap] 61)).alloc (.cells #[.int .i64 0, .int .i64 0] 36)).frozen? ⟨w.heap.size + 1, 1, none⟩ = false := by go_simp
  have hB1 := below_two hB0 hs1
  clear hB0 hs1
  generalize ((w.alloc (.cells #[.int .i64 n, .int .i64 d, .slice p gs.length cap] 61)).alloc (.cells #[.int .i64 0, .int .i64 0] 36)) = w1 at *
  have z_m := World.block_lt_of_cell? _ _ c_m_0
  have z_r := World.block_lt_of_cell? _ _ c_r_0
  have HI1 := Lib.hid (HI.out.later hB1)
  clear HI
  go_wp2_with fail
  refine (mright_is HI1.out h).mono ?_
  rintro e w2 ⟨rfl, hb2⟩
  have hs2 := hb2
  replace c_m_0 := cell_later hs2 c_m_0
  replace c_m_1 := cell_later hs2 c_m_1
  replace c_m_2 := cell_later hs2 c_m_2
  replace f_r_0 := frozen_later hs2 c_r_0 f_r_0
  replace c_r_0 := cell_later hs2 c_r_0
  replace f_r_1 := frozen_later hs2 c_r_1 f_r_1
  replace c_r_1 := cell_later hs2 c_r_1
  clear z_m
  have z_m := World.block_lt_of_cell? _ _ c_m_0
  clear z_r
  have z_r := World.block_lt_of_cell? _ _ c_r_0
  have hB2 := below_two hB1 hs2
  clear hB1 hs2
  go_wp2_with fail
  refine (ofP_any (n := n) (d := d) (by omega) (by omega) (by omega) (by omega) _).mono ?_
  rintro e w3 ⟨rfl, hb3⟩
  have hs3 := hb3
  replace c_m_0 := cell_later hs3 c_m_0
  replace c_m_1 := cell_later hs3 c_m_1
  replace c_m_2 := cell_later hs3 c_m_2
  replace f_r_0 := frozen_later hs3 c_r_0 f_r_0
  replace c_r_0 := cell_later hs3 c_r_0
  replace f_r_1 := frozen_later hs3 c_r_1 f_r_1
  replace c_r_1 := cell_later hs3 c_r_1
  clear z_m
  have z_m := World.block_lt_of_cell? _ _ c_m_0
  clear z_r
  have z_r := World.block_lt_of_cell? _ _ c_r_0
  have hB3 := below_two hB2 hs3
  clear hB2 hs3
  obtain ⟨X, HX⟩ : ∃ X, Hid (Met.of n d = X) := ⟨_, Lib.hid rfl⟩
  rw [HX.out]
  obtain ⟨x, y⟩ := X
  dsimp only
  obtain ⟨m0, m1⟩ := put2_of (x := .int .i64 x) (y := .int .i64 y) c_r_0 c_r_1
  go_wp2
  exact bodyPost_ret (v := rvp (x, y) 0) (by simp [results, Tryd.results21, go_sem, m0, m1]) rfl ⟨by rw [HX.out], put2_below hB3 (by omega)⟩

theorem mlength_any (n d : Int) (v : Value) (gs : List Int) (w : World) (hI : Ints w v gs) :
    Calls Tryd.prog 21 #[mt n d v] w fun ed w' => ed = .returned (rvp (lenP n d gs) (lenE n d gs)) ∧ Below w.heap.size w w' := by
  unfold lenP lenE
  cases h : Met.right n d gs
  · exact mlength_0 n d v gs w hI h
  · exact mlength_1 n d v gs w hI h
end Go.Proofs.YtobhmiknlbjmkaaDoor.Mtr
