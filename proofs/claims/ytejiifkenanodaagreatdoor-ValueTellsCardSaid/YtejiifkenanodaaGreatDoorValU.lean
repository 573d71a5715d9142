/-
  The contract of the reference's Read, all ways together: what it reads is what the document says, as the program does.
-/
import Derived.Test.YtejiifkenanodaaGreatDoorValT
namespace Go.Proofs.YtejiifkenanodaaGreatDoor
open Go.RowKit

/-- The base that the reference comes to. -/
def rfB (p : Int) : Nat := Val.fst (fun j => !decide (j < 6 ∧ Val.bt (j : Int) < p)) 6
theorem rfB_spec (p : Int) : (∀ j : Nat, j < rfB p → j < 6 ∧ Val.bt (j : Int) < p) ∧ (rfB p < 6 → ¬ Val.bt (rfB p : Int) < p) := by
  unfold rfB
  rcases Val.fst_spec (fun j => !decide (j < 6 ∧ Val.bt (j : Int) < p)) 6 with ⟨h1, h2⟩ | ⟨h1, h2, h3⟩
  · rw [h1]
    exact ⟨fun j hj => by have := h2 j hj; simpa using this, fun h => absurd h (by omega)⟩
  · refine ⟨fun j hj => by have := h3 j hj; simpa using this, fun _ hk => ?_⟩
    simp only [Bool.not_eq_true', decide_eq_false_iff_not] at h2
    exact h2 ⟨h1, hk⟩
theorem frq_all : ∀ b : Fin 7, ∀ d : Fin 3, decide (Lib.trimRightB (Val.frB b.val d.val) 46 = Lib.itoa (Val.bt b.val) ∧ rfB (Val.bt b.val) = b.val ∧ (Val.frB b.val d.val).length = (Lib.itoa (Val.bt b.val)).length + d.val) = true := by decide +kernel
theorem frq_back {b d : Int} (b0 : 0 ≤ b) (b6 : b ≤ 6) (d0 : 0 ≤ d) (d2 : d ≤ 2) : Lib.trimRightB (Val.frB b d) 46 = Lib.itoa (Val.bt b) ∧ rfB (Val.bt b) = b.toNat ∧ (Val.frB b d).length = (Lib.itoa (Val.bt b)).length + d.toNat := by
  have := of_decide_eq_true (frq_all ⟨b.toNat, by omega⟩ ⟨d.toNat, by omega⟩)
  simp only [show ((b.toNat : Nat) : Int) = b by omega, show ((d.toNat : Nat) : Int) = d by omega] at this
  exact this
theorem drop_dots (r : List UInt8) : ∃ k, r = List.replicate k 46 ++ r.dropWhile (· == 46) ∧ ∀ a t, r.dropWhile (· == 46) = a :: t → a ≠ 46 := by
  induction r with
  | nil => exact ⟨0, rfl, fun a t h => by cases h⟩
  | cons x r ih =>
    obtain ⟨k, h1, h2⟩ := ih
    by_cases hx : x = 46
    · subst hx
      refine ⟨k + 1, ?_, fun a t h => h2 a t (by simpa using h)⟩
      rw [List.dropWhile_cons_of_pos (by simp), List.replicate_succ, List.cons_append, ← h1]
    · have e : (x :: r).dropWhile (· == 46) = x :: r := List.dropWhile_cons_of_neg (by simpa using hx)
      rw [e]
      exact ⟨0, rfl, fun a t h => by cases h; exact hx⟩
theorem rev_last (q : List UInt8) (h2 : ∀ a t, q = a :: t → a ≠ 46) (M : Nat) (h : q.reverse.length = M + 1) : q.reverse[M]'(by omega) ≠ 46 := by
  cases q with
  | nil => cases h
  | cons a t =>
    have ha := h2 a t rfl
    have hm : M = t.length := by simpa using h.symm
    subst hm
    rw [List.getElem_reverse]
    simpa using ha
theorem trim_split (f : List UInt8) : ∃ D, f = Lib.trimRightB f 46 ++ List.replicate D 46 ∧ ∀ M (h : (Lib.trimRightB f 46).length = M + 1), (Lib.trimRightB f 46)[M]'(by omega) ≠ 46 := by
  obtain ⟨k, h1, h2⟩ := drop_dots f.reverse
  refine ⟨k, ?_, fun M h => rev_last _ h2 M h⟩
  unfold Lib.trimRightB
  have := congrArg List.reverse h1
  rw [List.reverse_reverse, List.reverse_append, List.reverse_replicate] at this
  exact this

/-- What the letters are, if there is a right value that is written so. -/
theorem rd_back {l f b : List UInt8} {t : Bool} (he : Lib.cut l [42] = (f, b, t)) {D : Nat} (hf : f = Lib.trimRightB f 46 ++ List.replicate D 46) {B' d n e : Int} (hr : Val.rdv l = some (B', d, n, e)) :
    (rfB (readNum (Lib.trimRightB f 46)).1 : Int) = B' ∧ (D : Int) = d ∧ (readNum (Lib.trimRightB f 46)).2 = true ∧ ((n = 0 ∧ e = 0 ∧ t = false) ∨ (t = true ∧ (readNum (Lib.cut b [58]).1) = (n, true) ∧ (readNum (Lib.cut b [58]).2.1) = (e, true))) := by
  obtain ⟨hok, rfl⟩ := Val.rd_some hr
  obtain ⟨b0, b6, d0, d2, hk⟩ := (Val.ok_iff _ _ _ _).1 hok
  obtain ⟨f1, f2, f3⟩ := Val.fr_back b0 b6 d0 d2
  obtain ⟨g1, g2, g3⟩ := frq_back b0 b6 d0 d2
  have hb := Val.bt_bounds b0 b6
  have hc : f = Val.frB B' d ∧ ((n = 0 ∧ e = 0 ∧ t = false) ∨ (t = true ∧ (readNum (Lib.cut b [58]).1) = (n, true) ∧ (readNum (Lib.cut b [58]).2.1) = (e, true))) := by
    unfold Val.txt at he
    rcases hk with ⟨rfl, rfl⟩ | ⟨n0, n1, e0, e1, _⟩
    · rw [if_pos rfl, List.append_nil, Val.cut_none f3] at he
      cases he
      exact ⟨rfl, .inl ⟨rfl, rfl, rfl⟩⟩
    · rw [if_neg (by omega), Val.cut_here f3] at he
      cases he
      refine ⟨rfl, .inr ⟨rfl, ?_⟩⟩
      unfold Val.tuB
      rw [Val.cut_here (Val.itoa_no (.inr rfl) n)]
      exact ⟨readNum_itoa (by omega) (by omega), readNum_itoa (by omega) (by omega)⟩
  obtain ⟨rfl, hc⟩ := hc
  have hD := congrArg List.length hf
  rw [g1, List.length_append, List.length_replicate] at hD
  rw [g1, readNum_itoa (by omega) (by omega)]
  exact ⟨by simp only [g2]; omega, by omega, rfl, hc⟩

theorem vrefRead_any (s : ByteArray) (w : World) (hs : s.size ≤ 30) :
    Calls Tryz.prog 13 #[.string s] w fun ed w' => ed = .returned (rdV (Val.rdv s.data.toList)) ∧ Below w.heap.size w w' := by
  have hT := ByteArray.toList_eq s
  generalize hl0 : s.data.toList = l at hT ⊢
  have hsl : s = ⟨l.toArray⟩ := by subst hl0; obtain ⟨⟨x⟩⟩ := s; rfl
  have hl : l.length ≤ 30 := by rw [← hl0, ← Lib.size_eq]; exact hs
  have hc := Val.cut_short 42 l
  obtain ⟨f, b, t, he⟩ : ∃ f b t, Lib.cut l [42] = (f, b, t) := ⟨_, _, _, rfl⟩
  obtain ⟨D, hf, hL⟩ := trim_split f
  have bk : ∀ {B' d n e : Int}, Val.rdv l = some (B', d, n, e) → _ := fun hr => rd_back he hf hr
  rw [he] at hc
  simp only at hc
  obtain ⟨q, hq⟩ : ∃ q, Lib.trimRightB f 46 = q := ⟨_, rfl⟩
  rw [hq] at hf
  have lf : q.length + D ≤ 30 := by have := congrArg List.length hf; simp at this; omega
  have HL : Hid (∀ M (h : q.length = M + 1), ((((⟨q.toArray⟩ : ByteArray)[M]'(by show M < q.length; omega)).toNat : Int) == 46) = false) := Lib.hid (fun M h => by
    subst hq
    have := hL M h
    rw [show (46 : Int) = ((46 : UInt8).toNat : Int) from rfl, byte_eq, bytes_at _ _ _ (by omega)]
    exact beq_eq_false_iff_ne.2 this)
  simp only [hq] at bk
  obtain ⟨p, o, hn⟩ : ∃ p o, readNum q = (p, o) := ⟨_, _, rfl⟩
  simp only [hn] at bk
  obtain ⟨hB1, hB2⟩ := rfB_spec p
  obtain ⟨B, hB⟩ : ∃ B, rfB p = B := ⟨_, rfl⟩
  rw [hB] at hB1 hB2
  simp only [hB] at bk
  have HC : Hid (∀ w, Calls Tryz.prog 37 #[.string s, .int .u8 42] w fun e w' => e = .returned (.tuple #[.string ⟨f.toArray⟩, .string ⟨b.toArray⟩, .bool t]) ∧ Below w.heap.size w w') := Lib.hid (fun w => by
    have := vrefCut_any l 42 w (by omega)
    rw [he] at this
    rw [hsl]
    exact this)
  have HN : Hid (∀ w, Calls Tryz.prog 38 #[.string ⟨q.toArray⟩] w fun e w' => e = .returned (.tuple #[.int .i64 p, .bool o]) ∧ Below w.heap.size w w') := Lib.hid (fun w => by
    have := readNumber_any ⟨q.toArray⟩ w (by show q.length ≤ 30; omega)
    rw [show (ByteArray.mk q.toArray).data.toList = q from rfl, hn] at this
    exact this)
  have none_of : (∀ B' d n e, Val.rdv l ≠ some (B', d, n, e)) → rdV (Val.rdv l) = .tuple #[vl 0 0 0 0, .int .i64 12] := fun h => by
    cases hr : Val.rdv l with
    | none => rfl
    | some x => obtain ⟨x1, x2, x3, x4⟩ := x; exact absurd hr (h _ _ _ _)
  have yes_of : ∀ {n e : Int}, Val.ok B D n e = true → Val.txt B D n e = l → rdV (Val.rdv l) = .tuple #[vl B D n e, .int .i64 0] := fun h1 h2 => by
    have := Val.rd_txt h1
    rw [h2] at this
    rw [this]; rfl
  have eX : ∀ {n e : Int}, Val.ok B D n e = true → Val.txtE B D n e = Val.txt B D n e ∧ Val.lenE B D n e = 0 := fun h => by unfold Val.txtE Val.lenE; rw [h]; exact ⟨rfl, rfl⟩
  have eN : ∀ {n e : Int}, Val.ok B D n e = false → Val.lenE B D n e = 40 := fun h => by unfold Val.lenE; rw [h]; rfl
  cases t with
  | false =>
    cases o with
    | false =>
      rw [none_of (fun _ _ _ _ h => by have := (bk h).2.2.1; cases this)]
      exact vrefRead_no1 s w q b D f HC (Lib.hid hf) lf HL p HN B (Lib.hid hB1) (Lib.hid hB2) _ _ (Lib.hid ⟨rfl, rfl⟩)
    | true =>
      cases hok : Val.ok B D 0 0
      · rw [none_of (fun _ _ _ _ h => by
          obtain ⟨r1, r2, _, ⟨rfl, rfl, _⟩ | ⟨r, _⟩⟩ := bk h
          · have := (Val.rd_some h).1
            rw [← r1, ← r2, hok] at this
            cases this
          · cases r)]
        exact vrefRead_no2 s w q b D f HC (Lib.hid hf) lf HL p HN B (Lib.hid hB1) (Lib.hid hB2) _ (Lib.hid ⟨rfl, eN hok⟩)
      · obtain ⟨x1, x2⟩ := eX hok
        cases hx : (Val.txt B D 0 0 == l)
        · rw [none_of (fun _ _ _ _ h => by
            obtain ⟨r1, r2, _, ⟨rfl, rfl, _⟩ | ⟨r, _⟩⟩ := bk h
            · have := (Val.rd_some h).2
              rw [← r1, ← r2] at this
              exact absurd this (beq_eq_false_iff_ne.1 hx)
            · cases r)]
          exact vrefRead_no3 s w q b D f HC (Lib.hid hf) lf HL p HN B (Lib.hid hB1) (Lib.hid hB2) _ (Lib.hid ⟨x1, x2⟩) (by rw [hT]; exact hx)
        · rw [yes_of hok (eq_of_beq hx)]
          exact vrefRead_yes s w q b D f HC (Lib.hid hf) lf HL p HN B (Lib.hid hB1) (Lib.hid hB2) _ (Lib.hid ⟨x1, x2⟩) (by rw [hT]; exact hx)
  | true =>
    have hc2 := Val.cut_short 58 b
    obtain ⟨y, z, u, he2⟩ : ∃ y z u, Lib.cut b [58] = (y, z, u) := ⟨_, _, _, rfl⟩
    rw [he2] at hc2
    simp only at hc2
    have HC2 : Hid (∀ w, Calls Tryz.prog 37 #[.string ⟨b.toArray⟩, .int .u8 58] w fun e w' => e = .returned (.tuple #[.string ⟨y.toArray⟩, .string ⟨z.toArray⟩, .bool u]) ∧ Below w.heap.size w w') := Lib.hid (fun w => by
      have := vrefCut_any b 58 w (by omega)
      rw [he2] at this
      exact this)
    obtain ⟨n, o2, hn2⟩ : ∃ p o, readNum y = (p, o) := ⟨_, _, rfl⟩
    obtain ⟨e, o3, hn3⟩ : ∃ p o, readNum z = (p, o) := ⟨_, _, rfl⟩
    have HN1 : Hid (∀ w, Calls Tryz.prog 38 #[.string ⟨y.toArray⟩] w fun e w' => e = .returned (.tuple #[.int .i64 n, .bool o2]) ∧ Below w.heap.size w w') := Lib.hid (fun w => by
      have := readNumber_any ⟨y.toArray⟩ w (by show y.length ≤ 30; omega)
      rw [show (ByteArray.mk y.toArray).data.toList = y from rfl, hn2] at this
      exact this)
    have HN2 : Hid (∀ w, Calls Tryz.prog 38 #[.string ⟨z.toArray⟩] w fun ed w' => ed = .returned (.tuple #[.int .i64 e, .bool o3]) ∧ Below w.heap.size w w') := Lib.hid (fun w => by
      have := readNumber_any ⟨z.toArray⟩ w (by show z.length ≤ 30; omega)
      rw [show (ByteArray.mk z.toArray).data.toList = z from rfl, hn3] at this
      exact this)
    simp only [he2, hn2, hn3] at bk
    have bs : ∀ {B' d n' e' : Int}, Val.rdv l = some (B', d, n', e') → (B : Int) = B' ∧ (D : Int) = d ∧ o = true ∧ (n = n' ∧ o2 = true) ∧ (e = e' ∧ o3 = true) := fun h => by
      obtain ⟨r1, r2, r3, ⟨_, _, r⟩ | ⟨_, r4, r5⟩⟩ := bk h
      · cases r
      · exact ⟨r1, r2, r3, by simpa using r4, by simpa using r5⟩
    cases o with
    | false =>
      rw [none_of (fun _ _ _ _ h => by have := (bs h).2.2.1; cases this)]
      exact vrefRead_sno1 s w q b D f HC (Lib.hid hf) lf HL p HN B (Lib.hid hB1) (Lib.hid hB2) y z u HC2 o2 o3 n e HN1 HN2 _ _ (Lib.hid ⟨rfl, rfl⟩)
    | true =>
      cases o2 with
      | false =>
        rw [none_of (fun _ _ _ _ h => by have := (bs h).2.2.2.1.2; cases this)]
        exact vrefRead_sno2 s w q b D f HC (Lib.hid hf) lf HL p HN B (Lib.hid hB1) (Lib.hid hB2) y z u HC2 o3 n e HN1 HN2 _ _ (Lib.hid ⟨rfl, rfl⟩)
      | true =>
        cases o3 with
        | false =>
          rw [none_of (fun _ _ _ _ h => by have := (bs h).2.2.2.2.2; cases this)]
          exact vrefRead_sno3 s w q b D f HC (Lib.hid hf) lf HL p HN B (Lib.hid hB1) (Lib.hid hB2) y z u HC2 n e HN1 HN2 _ _ (Lib.hid ⟨rfl, rfl⟩)
        | true =>
          cases hok : Val.ok B D n e
          · rw [none_of (fun _ _ _ _ h => by
              obtain ⟨r1, r2, _, ⟨r4, _⟩, r5, _⟩ := bs h
              have := (Val.rd_some h).1
              rw [← r1, ← r2, ← r4, ← r5, hok] at this
              cases this)]
            exact vrefRead_sno4 s w q b D f HC (Lib.hid hf) lf HL p HN B (Lib.hid hB1) (Lib.hid hB2) y z u HC2 n e HN1 HN2 _ (Lib.hid ⟨rfl, eN hok⟩)
          · obtain ⟨x1, x2⟩ := eX hok
            cases hx : (Val.txt B D n e == l)
            · rw [none_of (fun _ _ _ _ h => by
                obtain ⟨r1, r2, _, ⟨r4, _⟩, r5, _⟩ := bs h
                have := (Val.rd_some h).2
                rw [← r1, ← r2, ← r4, ← r5] at this
                exact absurd this (beq_eq_false_iff_ne.1 hx))]
              exact vrefRead_sno5 s w q b D f HC (Lib.hid hf) lf HL p HN B (Lib.hid hB1) (Lib.hid hB2) y z u HC2 n e HN1 HN2 _ (Lib.hid ⟨x1, x2⟩) (by rw [hT]; exact hx)
            · rw [yes_of hok (eq_of_beq hx)]
              exact vrefRead_syes s w q b D f HC (Lib.hid hf) lf HL p HN B (Lib.hid hB1) (Lib.hid hB2) y z u HC2 n e HN1 HN2 _ (Lib.hid ⟨x1, x2⟩) (by rw [hT]; exact hx)
end Go.Proofs.YtejiifkenanodaaGreatDoor
