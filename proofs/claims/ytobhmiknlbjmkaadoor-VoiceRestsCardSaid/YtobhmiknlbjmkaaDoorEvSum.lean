/-
  What follows of several events together, in plain words: one event is its own chord, turns, what goes up. No program.
-/
import Derived.Test.YtobhmiknlbjmkaaDoorEvChd
namespace Go.Proofs.YtobhmiknlbjmkaaDoor.Evt
open Go.Proofs.YtobhmiknlbjmkaaDoor

theorem rise_lt : ∀ l : List Int, rise Pit.cmp l = true ↔ l.Pairwise (· < ·)
  | [] => by simp [rise]
  | [_] => by simp [rise]
  | x :: y :: l => by
    have e : (0 < Pit.cmp y x) ↔ x < y := by rcases Pit.cmp_cases y x with ⟨h, e⟩ | ⟨h, e⟩ | ⟨h, e⟩ <;> rw [e] <;> constructor <;> intro g <;> omega
    rw [rise, Bool.and_eq_true, decide_eq_true_iff, e, rise_lt (y :: l), List.pairwise_cons (a := x)]
    constructor
    · rintro ⟨h1, h2⟩
      refine ⟨fun z hz => ?_, h2⟩
      rcases List.mem_cons.1 hz with rfl | hz
      · exact h1
      · have := (List.pairwise_cons.1 h2).1 z hz; omega
    · rintro ⟨h1, h2⟩
      exact ⟨h1 y (by simp), h2⟩
theorem lt_unique : ∀ l m : List Int, l.Pairwise (· < ·) → m.Pairwise (· < ·) → (∀ x, x ∈ l ↔ x ∈ m) → l = m
  | [], [], _, _, _ => rfl
  | [], y :: m, _, _, h => by have := (h y).2 (by simp); simp at this
  | x :: l, [], _, _, h => by have := (h x).1 (by simp); simp at this
  | x :: l, y :: m, hl, hm, h => by
    obtain ⟨hl1, hl2⟩ := List.pairwise_cons.1 hl
    obtain ⟨hm1, hm2⟩ := List.pairwise_cons.1 hm
    have e : x = y := by
      rcases List.mem_cons.1 ((h x).1 (by simp)) with e | e
      · exact e
      · rcases List.mem_cons.1 ((h y).2 (by simp)) with f | f
        · exact f.symm
        · have h1 := hm1 x e; have h2 := hl1 y f; omega
    subst e
    rw [lt_unique l m hl2 hm2 fun z => ?_]
    constructor
    · intro hz
      rcases List.mem_cons.1 ((h z).1 (by simp [hz])) with e | e
      · subst e; have := hl1 z hz; omega
      · exact e
    · intro hz
      rcases List.mem_cons.1 ((h z).2 (by simp [hz])) with e | e
      · subst e; have := hm1 z hz; omega
      · exact e
theorem size0 {s : ByteArray} (h : s.size = 0) : s = ByteArray.empty := by
  obtain ⟨d⟩ := s
  have : d = #[] := Array.eq_empty_of_size_eq_zero h
  rw [this]; rfl

structure IsR (x : Ev) : Prop where
  val : Val.ok x.b x.d x.n x.e = true
  word : wordR x.s = true
  marks : ∀ m ∈ x.ms, 1 ≤ m ∧ m ≤ 4
  risen : x.ms.Pairwise (· < ·)
  kind : (x.k = 0 ∧ x.ps = [] ∧ x.ts = [] ∧ x.s.size = 0 ∧ ∀ m ∈ x.ms, m = 4) ∨ (x.k = 1 ∧ 1 ≤ x.ps.length ∧ x.ps.length ≤ 8)
  len : x.ts.length = x.ps.length
  rgts : x.ps.all rgt = true
  asc : Asc x.ps
theorem right_iff (x : Ev) : right x = true ↔ IsR x := by
  unfold right marksR
  rw [Bool.and_eq_true, Bool.and_eq_true, Bool.and_eq_true, Bool.and_eq_true, rise_lt]
  have em : x.ms.all markR = true ↔ ∀ m ∈ x.ms, 1 ≤ m ∧ m ≤ 4 := by simp [markR]
  rw [em]
  unfold kindR
  by_cases h0 : x.k = 0
  · rw [if_pos h0]
    unfold restR
    rw [Bool.and_eq_true, Bool.and_eq_true, Bool.and_eq_true, decide_eq_true_iff, decide_eq_true_iff, decide_eq_true_iff]
    have ef : x.ms.all ferm = true ↔ ∀ m ∈ x.ms, m = 4 := by simp [ferm]
    rw [ef]
    constructor
    · rintro ⟨hv, hw, ⟨hm, hr⟩, hp, ht, hs, hf⟩
      have hp := List.eq_nil_of_length_eq_zero hp
      have ht := List.eq_nil_of_length_eq_zero ht
      exact ⟨hv, hw, hm, hr, Or.inl ⟨h0, hp, ht, hs, hf⟩, by rw [hp, ht]; rfl, by rw [hp]; rfl, by rw [hp]; simp [Asc]⟩
    · intro h
      rcases h.kind with ⟨_, hp, ht, hs, hf⟩ | ⟨h1, _⟩
      · exact ⟨h.val, h.word, ⟨h.marks, h.risen⟩, by rw [hp]; rfl, by rw [ht]; rfl, hs, hf⟩
      · omega
  · rw [if_neg h0]
    by_cases h1 : x.k = 1
    · rw [if_pos h1]
      unfold chordR
      rw [Bool.and_eq_true, Bool.and_eq_true, Bool.and_eq_true, decide_eq_true_iff, decide_eq_true_iff]
      constructor
      · rintro ⟨hv, hw, ⟨hm, hr⟩, ⟨hl, ht⟩, ha, hs⟩
        exact ⟨hv, hw, hm, hr, Or.inr ⟨h1, hl.1, hl.2⟩, ht, ha, (rise_asc _ ha).1 hs⟩
      · intro h
        rcases h.kind with ⟨hk, _⟩ | ⟨_, h2, h3⟩
        · omega
        · exact ⟨h.val, h.word, ⟨h.marks, h.risen⟩, ⟨⟨h2, h3⟩, h.len⟩, h.rgts, (rise_asc _ h.rgts).2 h.asc⟩
    · rw [if_neg h1]
      constructor
      · rintro ⟨_, _, _, h⟩; cases h
      · intro h
        rcases h.kind with ⟨hk, _⟩ | ⟨hk, _⟩
        · exact absurd hk h0
        · exact absurd hk h1
theorem IsR.max8 {x : Ev} (h : IsR x) : x.ps.length ≤ 8 := by
  rcases h.kind with ⟨_, hp, _⟩ | ⟨_, _, h8⟩
  · rw [hp]; simp
  · exact h8
theorem IsR.fst {x : Ev} (h : IsR x) : (pts x).map Prod.fst = x.ps := by unfold pts; exact List.map_fst_zip (by rw [h.len]; exact Nat.le_refl _)
theorem IsR.snd {x : Ev} (h : IsR x) : (pts x).map Prod.snd = x.ts := by unfold pts; exact List.map_snd_zip (by rw [h.len]; exact Nat.le_refl _)
theorem IsR.ascT {x : Ev} (h : IsR x) : AscT (pts x) := ascT_fst.2 (by rw [h.fst]; exact h.asc)
theorem IsR.rgtT {x : Ev} (h : IsR x) : RgtT (pts x) := fun y hy => by
  have : y.1 ∈ x.ps := by rw [← h.fst]; exact List.mem_map_of_mem (f := Prod.fst) hy
  exact List.all_eq_true.1 h.rgts _ this
theorem fl_cons (x : Ev) (l : List Ev) : fl (x :: l) = pts x ++ fl l := rfl
theorem fl_rgt : ∀ {l : List Ev}, (∀ x ∈ l, IsR x) → RgtT (fl l)
  | [], _ => by intro x hx; simp [fl] at hx
  | x :: l, h => by
    intro y hy
    rw [fl_cons, List.mem_append] at hy
    rcases hy with hy | hy
    · exact (h x (by simp)).rgtT y hy
    · exact fl_rgt (fun z hz => h z (by simp [hz])) y hy
theorem fl_nil : ∀ {l : List Ev}, (∀ x ∈ l, IsR x) → fl l = [] → ∀ x ∈ l, x.ps = []
  | [], _, _ => by simp
  | x :: l, h, e => by
    rw [fl_cons, List.append_eq_nil_iff] at e
    intro y hy
    rcases List.mem_cons.1 hy with rfl | hy
    · rw [← (h y (by simp)).fst, e.1]; rfl
    · exact fl_nil (fun z hz => h z (by simp [hz])) e.2 y hy
theorem allP_nil {l : List Ev} (hr : RgtT (fl l)) : allP l = [] ↔ fl l = [] := by
  obtain ⟨_, _, h, _⟩ := allP_told hr
  constructor
  · intro e
    cases hf : fl l with
    | nil => rfl
    | cons y r => have := (h y.1).2 (by rw [hf]; simp); rw [e] at this; simp at this
  · intro e
    cases hf : allP l with
    | nil => rfl
    | cons y r => have := (h y.1).1 (by rw [hf]; simp); rw [e] at this; simp at this
theorem fw_mem : ∀ l : List Ev, fw l = ByteArray.empty ∨ ∃ x ∈ l, fw l = x.s
  | [] => Or.inl rfl
  | x :: l => by
    unfold fw
    by_cases h : x.s.size = 0
    · rw [if_pos h]
      rcases fw_mem l with e | ⟨y, hy, e⟩
      · exact Or.inl e
      · exact Or.inr ⟨y, by simp [hy], e⟩
    · rw [if_neg h]; exact Or.inr ⟨x, by simp, rfl⟩
theorem fw_word {l : List Ev} (h : ∀ x ∈ l, IsR x) : wordR (fw l) = true := by
  rcases fw_mem l with e | ⟨y, hy, e⟩
  · rw [e]; rfl
  · rw [e]; exact (h y hy).word
theorem mk_mem {l : List Ev} {m : Int} : m ∈ mk l ↔ (1 ≤ m ∧ m ≤ 4) ∧ ∃ x ∈ l, m ∈ x.ms := by
  unfold mk
  rw [List.mem_filter, List.any_eq_true]
  have : m ∈ [1, 2, 3, 4] ↔ 1 ≤ m ∧ m ≤ 4 := by simp; omega
  rw [this]
  simp
theorem mk_risen (l : List Ev) : (mk l).Pairwise (· < ·) := by
  unfold mk
  exact List.Pairwise.filter _ (by decide)
theorem mk_is {l : List Ev} {S : List Int} (hS : S.Pairwise (· < ·)) (hm : ∀ m, m ∈ S ↔ (1 ≤ m ∧ m ≤ 4) ∧ ∃ x ∈ l, m ∈ x.ms) : mk l = S :=
  lt_unique _ _ (mk_risen l) hS fun m => mk_mem.trans (hm m).symm
theorem one_isR {x : Ev} {l : List Ev} (h : ∀ y ∈ x :: l, IsR y) (h8 : (allP (x :: l)).length ≤ 8) : IsR (one x l) := by
  have hr := fl_rgt h
  obtain ⟨g1, g2, g3, g4⟩ := allP_told hr
  refine ⟨(h x (by simp)).val, fw_word h, fun m hm => (mk_mem.1 hm).1, mk_risen _, ?_, by simp [one], ?_, ascT_fst.1 g2⟩
  · by_cases e : allP (x :: l) = []
    · left
      have hn := fl_nil h ((allP_nil hr).1 e)
      refine ⟨by simp [one, e], by simp [one, e], by simp [one, e], ?_, ?_⟩
      · rcases fw_mem (x :: l) with e | ⟨y, hy, e⟩
        · show (fw (x :: l)).size = 0; rw [e]; rfl
        · show (fw (x :: l)).size = 0
          rw [e]
          rcases (h y hy).kind with ⟨_, _, _, hs, _⟩ | ⟨_, h1, _⟩
          · exact hs
          · rw [hn y hy] at h1; simp at h1
      · intro m hm
        obtain ⟨_, y, hy, hm⟩ := mk_mem.1 hm
        rcases (h y hy).kind with ⟨_, _, _, _, hf⟩ | ⟨_, h1, _⟩
        · exact hf m hm
        · rw [hn y hy] at h1; simp at h1
    · right
      refine ⟨by simp [one, e], ?_, by simpa [one] using h8⟩
      show 1 ≤ ((allP (x :: l)).map Prod.fst).length
      rw [List.length_map]
      exact List.length_pos_iff.2 e
  · rw [List.all_eq_true]
    intro p hp
    obtain ⟨y, hy, e⟩ := List.mem_map.1 hp
    rw [← e]; exact g1 y hy
theorem right_one {x : Ev} {l : List Ev} (h : ∀ y ∈ x :: l, IsR y) : right (one x l) = decide ((allP (x :: l)).length ≤ 8) := by
  by_cases h8 : (allP (x :: l)).length ≤ 8
  · rw [decide_eq_true h8, right_iff]; exact one_isR h h8
  · rw [decide_eq_false h8, ← Bool.not_eq_true, right_iff]
    intro hh
    have := hh.max8
    simp [one] at this
    omega
theorem chordE_cons (x : Ev) (l : List Ev) : chordE (x :: l) = if !((x :: l).all right) then (zero, 60) else if !((x :: l).all (sameVal x)) then (zero, 2) else rightAlone (one x l) := rfl
theorem all_isR {l : List Ev} (h : l.all right = true) : ∀ y ∈ l, IsR y := fun y hy => (right_iff y).1 (List.all_eq_true.1 h y hy)
theorem sameVal_self (x : Ev) : sameVal x x = true := by simp [sameVal]

/-- One event, and one event twice: itself. -/
theorem mk_one {x : Ev} (h : IsR x) {l : List Ev} (hl : ∀ y ∈ l, y = x) (hx : x ∈ l) : mk l = x.ms := by
  refine mk_is h.risen fun m => ?_
  constructor
  · intro hm; exact ⟨h.marks m hm, x, hx, hm⟩
  · rintro ⟨_, y, hy, hm⟩; rw [hl y hy] at hm; exact hm
theorem one_self {x : Ev} (h : IsR x) {l : List Ev} (hl : l = [] ∨ l = [x]) : one x l = x := by
  have hall : ∀ y ∈ x :: l, y = x := by rcases hl with rfl | rfl <;> simp
  have hr := fl_rgt (l := x :: l) fun y hy => by rw [hall y hy]; exact h
  have hm : ∀ q, q ∈ x.ps ↔ q ∈ (fl (x :: l)).map Prod.fst := by
    intro q
    rcases hl with rfl | rfl
    · rw [fl_cons]; simp [fl]; rw [← h.fst]; simp
    · rw [fl_cons, fl_cons]; simp [fl]; rw [← h.fst]; simp
  have ht : ∀ q, tie (fl (x :: l)) q = tie (pts x) q := by
    intro q
    rcases hl with rfl | rfl
    · rw [fl_cons]; simp [fl]
    · rw [fl_cons, fl_cons]; simp [fl, tie_append]
  obtain ⟨e1, e2⟩ := allP_is hr h.asc hm
  have e3 : (allP (x :: l)).map Prod.snd = x.ts := by
    rw [e2, ← h.snd, ascT_told h.ascT, h.fst]
    exact List.map_congr_left fun q _ => ht q
  have en : allP (x :: l) = [] ↔ x.ps = [] := by
    rw [← e1]; simp
  refine Ev.ext' ?_ e1 e3 rfl rfl rfl rfl (mk_one h hall (by simp)) ?_
  · show (if allP (x :: l) = [] then (0 : Int) else 1) = x.k
    rcases h.kind with ⟨k0, hp, _⟩ | ⟨k1, h1, _⟩
    · rw [if_pos (en.2 hp), k0]
    · rw [if_neg (fun e => by rw [en.1 e] at h1; simp at h1), k1]
  · show fw (x :: l) = x.s
    by_cases hs : x.s.size = 0
    · rcases hl with rfl | rfl
      · simp [fw, hs]; exact (size0 hs).symm
      · simp [fw, hs]; exact (size0 hs).symm
    · simp [fw, hs]
theorem chordE_one {x : Ev} {l : List Ev} (hl : l = [] ∨ l = [x]) : chordE (x :: l) = if right x then (x, 0) else (zero, 60) := by
  rw [chordE_cons]
  cases hx : right x
  · have : (x :: l).all right = false := by rw [List.all_cons, hx]; rfl
    rw [this]; rfl
  · have h1 : (x :: l).all right = true := by rcases hl with rfl | rfl <;> simp [hx]
    have h2 : (x :: l).all (sameVal x) = true := by rcases hl with rfl | rfl <;> simp [sameVal_self]
    rw [h1, h2, one_self ((right_iff x).1 hx) hl]
    simp [rightAlone, hx]

/-- In whatever turn two come. -/
theorem chordE_turn (x y : Ev) : (chordE [x, y]).2 = (chordE [y, x]).2 ∧ { (chordE [y, x]).1 with s := (chordE [x, y]).1.s } = (chordE [x, y]).1 := by
  rw [chordE_cons, chordE_cons]
  have e1 : [y, x].all right = [x, y].all right := by simp [Bool.and_comm]
  have e2 : [y, x].all (sameVal y) = [x, y].all (sameVal x) := by
    simp only [List.all_cons, List.all_nil, sameVal_self, Bool.and_true, Bool.true_and]
    unfold sameVal
    exact decide_eq_decide.2 ⟨fun ⟨a, b, c, d⟩ => ⟨a.symm, b.symm, c.symm, d.symm⟩, fun ⟨a, b, c, d⟩ => ⟨a.symm, b.symm, c.symm, d.symm⟩⟩
  rw [e1, e2]
  cases h1 : [x, y].all right
  · exact ⟨rfl, rfl⟩
  · cases h2 : [x, y].all (sameVal x)
    · exact ⟨rfl, rfl⟩
    · have hxy := all_isR h1
      have hyx := all_isR (l := [y, x]) (by rw [e1]; exact h1)
      obtain ⟨a1, a2, a3, a4⟩ := allP_told (fl_rgt hxy)
      have hm : ∀ q, q ∈ (allP [x, y]).map Prod.fst ↔ q ∈ (fl [y, x]).map Prod.fst := by
        intro q; rw [a3 q, fl_cons, fl_cons, fl_cons, fl_cons]; simp [fl, or_comm]
      obtain ⟨b1, b2⟩ := allP_is (fl_rgt hyx) (ascT_fst.1 a2) hm
      have ht : ∀ q, tie (fl [y, x]) q = tie (allP [x, y]) q := by
        intro q; rw [a4 q, fl_cons, fl_cons, fl_cons, fl_cons]; simp [fl, tie, Bool.or_comm]
      have b3 : (allP [y, x]).map Prod.snd = (allP [x, y]).map Prod.snd := by
        rw [b2, ascT_told a2]; exact List.map_congr_left fun q _ => ht q
      have bn : allP [y, x] = [] ↔ allP [x, y] = [] := by
        constructor
        · intro e; rw [e] at b1; simpa using b1.symm
        · intro e; rw [e] at b1; simpa using b1
      have bl : (allP [y, x]).length = (allP [x, y]).length := by
        have := congrArg List.length b1; simpa using this
      have bm : mk [y, x] = mk [x, y] := by
        refine mk_is (mk_risen _) fun m => ?_
        rw [mk_mem]; simp [or_comm]
      have hv : y.b = x.b ∧ y.d = x.d ∧ y.n = x.n ∧ y.e = x.e := by
        have := List.all_eq_true.1 h2 y (by simp)
        simpa [sameVal] using this
      have hk : (one y [x]).k = (one x [y]).k := by
        show (if allP [y, x] = [] then (0 : Int) else 1) = if allP [x, y] = [] then 0 else 1
        by_cases e : allP [x, y] = []
        · rw [if_pos e, if_pos (bn.2 e)]
        · rw [if_neg e, if_neg (fun k => e (bn.1 k))]
      have ho : { one y [x] with s := (one x [y]).s } = one x [y] :=
        Ev.ext' hk b1 b3 hv.1 hv.2.1 hv.2.2.1 hv.2.2.2 bm rfl
      have hr : right (one y [x]) = right (one x [y]) := by rw [right_one hyx, right_one hxy, bl]
      simp only [Bool.not_true, Bool.false_eq_true, if_false]
      unfold rightAlone
      rw [hr]
      cases right (one x [y])
      · exact ⟨rfl, rfl⟩
      · exact ⟨rfl, ho⟩

/-- What goes up keeps its order. -/
theorem up_ky {S H : Int} {p q : P3} (h : upP S H p = some q) : rgt p = true ∧ rgt q = true ∧ ky q = ky p + (1000 * H + S) := by
  obtain ⟨a, b, c⟩ := q
  obtain ⟨h1, h2, h3, h4⟩ := Pit.up_sound h
  refine ⟨(Pit.right_iff _ _ _).2 h1, (Pit.right_iff _ _ _).2 h2, ?_⟩
  unfold ky
  dsimp only
  omega
theorem up_back {S H : Int} {p q : P3} (h : upP S H p = some q) : upP (-S) (-H) q = some p := by
  obtain ⟨a, b, c⟩ := q
  obtain ⟨h1, h2, h3, h4⟩ := Pit.up_sound h

  have e1 : Pit.lin p.1 p.2.2 = Pit.lin a c + -S := by omega
  have e2 : Pit.num p.1 p.2.1 p.2.2 = Pit.num a b c + -H := by omega
  exact Pit.up_complete h2 h1 e1 e2
theorem up_bound {S H : Int} {p q : P3} (h : upP S H p = some q) : -127 ≤ S ∧ S ≤ 127 ∧ -127 ≤ H ∧ H ≤ 127 := by
  have hk : Pit.upOk p.1 p.2.1 p.2.2 S H = true := by
    unfold upP Pit.up at h
    by_cases hk : Pit.upOk p.1 p.2.1 p.2.2 S H = true
    · exact hk
    · rw [if_neg hk] at h; cases h
  unfold Pit.upOk at hk
  rw [Bool.and_eq_true, Bool.and_eq_true, decide_eq_true_iff] at hk
  exact ⟨hk.1.2.1, hk.1.2.2.1, hk.1.2.2.2.1, hk.1.2.2.2.2.1⟩
theorem lift_get {S H : Int} : ∀ {l m : List P3}, lift S H l = some m → ∀ (k : Nat) (p : P3), l[k]? = some p → ∃ q, m[k]? = some q ∧ upP S H p = some q
  | [], m, h, k, p, hp => by simp at hp
  | x :: l, m, h, k, p, hp => by
    rw [lift] at h
    cases hx : upP S H x with
    | none => rw [hx] at h; cases h
    | some y =>
      rw [hx] at h
      cases hl : lift S H l with
      | none => simp [hl] at h
      | some r =>
        simp [hl] at h
        subst h
        cases k with
        | zero => simp at hp; subst hp; exact ⟨y, rfl, hx⟩
        | succ k => exact lift_get hl k p (by simpa using hp)
theorem lift_back {S H : Int} : ∀ {l m : List P3}, lift S H l = some m → lift (-S) (-H) m = some l
  | [], m, h => by simp [lift] at h; subst h; rfl
  | x :: l, m, h => by
    rw [lift] at h
    cases hx : upP S H x with
    | none => rw [hx] at h; cases h
    | some y =>
      rw [hx] at h
      cases hl : lift S H l with
      | none => simp [hl] at h
      | some r =>
        simp [hl] at h
        subst h
        rw [lift, up_back hx, lift_back hl]
        rfl
theorem lift_cons_some {S H : Int} {x : P3} {l m : List P3} (h : lift S H (x :: l) = some m) : ∃ y r, upP S H x = some y ∧ lift S H l = some r ∧ m = y :: r := by
  rw [lift] at h
  cases hx : upP S H x with
  | none => rw [hx] at h; cases h
  | some y =>
    rw [hx] at h
    cases hl : lift S H l with
    | none => simp [hl] at h
    | some r => simp [hl] at h; subst h; exact ⟨y, r, rfl, rfl, rfl⟩
theorem lift_mem {S H : Int} {l m : List P3} (h : lift S H l = some m) (q : P3) : q ∈ m ↔ ∃ p ∈ l, upP S H p = some q := by
  constructor
  · intro hq
    obtain ⟨k, hk⟩ := List.mem_iff_getElem?.1 hq
    obtain ⟨p, hp, hu⟩ := lift_get (lift_back h) k q hk
    refine ⟨p, List.mem_of_getElem? hp, ?_⟩
    have := up_back hu
    rwa [Int.neg_neg, Int.neg_neg] at this
  · rintro ⟨p, hp, hu⟩
    obtain ⟨k, hk⟩ := List.mem_iff_getElem?.1 hp
    obtain ⟨q', hq, hu'⟩ := lift_get h k p hk
    rw [hu] at hu'; cases hu'
    exact List.mem_of_getElem? hq
theorem lift_asc {S H : Int} : ∀ {l m : List P3}, lift S H l = some m → Asc l → Asc m
  | [], m, h, _ => by simp [lift] at h; subst h; simp [Asc]
  | x :: l, m, h, ha => by
    obtain ⟨y, r, hx, hl, rfl⟩ := lift_cons_some h
    obtain ⟨h1, h2⟩ := List.pairwise_cons.1 ha
    refine List.pairwise_cons.2 ⟨fun q hq => ?_, lift_asc hl h2⟩
    obtain ⟨p, hp, hu⟩ := (lift_mem hl q).1 hq
    have := h1 p hp
    have e1 := (up_ky hx).2.2
    have e2 := (up_ky hu).2.2
    omega
theorem lift_rgt {S H : Int} {l m : List P3} (h : lift S H l = some m) : m.all rgt = true := by
  rw [List.all_eq_true]
  intro q hq
  obtain ⟨p, _, hu⟩ := (lift_mem h q).1 hq
  exact (up_ky hu).2.1
theorem lift_isR {S H : Int} {x : Ev} {m : List P3} (hx : IsR x) (h : lift S H x.ps = some m) : IsR { x with ps := m } := by
  have hl := lift_length S H _ _ h
  refine ⟨hx.val, hx.word, hx.marks, hx.risen, ?_, ?_, lift_rgt h, lift_asc h hx.asc⟩
  · rcases hx.kind with ⟨h0, hp, ht, hs, hf⟩ | ⟨h1, h2, h3⟩
    · left
      refine ⟨h0, ?_, ht, hs, hf⟩
      rw [hp] at hl
      exact List.eq_nil_of_length_eq_zero hl
    · right; exact ⟨h1, by show 1 ≤ m.length; omega, by show m.length ≤ 8; omega⟩
  · show x.ts.length = m.length
    rw [hl, hx.len]
/-- What Up answers of a right event. -/
theorem upE_right {S H : Int} {x : Ev} (hx : IsR x) : upE S H x = match lift S H x.ps with | some ps => ({ x with ps := ps }, 0) | none => (zero, 20) := by
  unfold upE
  rw [if_pos ((right_iff x).2 hx)]
  cases h : lift S H x.ps with
  | none => rfl
  | some m => dsimp only; unfold rightAlone; rw [if_pos ((right_iff _).2 (lift_isR hx h))]
theorem upE_ok {S H : Int} {x : Ev} (h : (upE S H x).2 = 0) : IsR x ∧ ∃ m, lift S H x.ps = some m ∧ upE S H x = ({ x with ps := m }, 0) ∧ IsR { x with ps := m } := by
  cases hr : right x
  · unfold upE at h; rw [hr] at h; simp at h
  · have hx := (right_iff x).1 hr
    rw [upE_right hx] at h
    cases hl : lift S H x.ps with
    | none => rw [hl] at h; simp at h
    | some m => exact ⟨hx, m, rfl, by rw [upE_right hx, hl], lift_isR hx hl⟩
theorem upE_bad {S H : Int} {x : Ev} (h : (upE S H x).2 ≠ 0) : (upE S H x).1 = zero := by
  unfold upE at *
  cases hr : right x
  · simp
  · rw [hr] at h
    simp only [if_true] at *
    cases hl : lift S H x.ps with
    | none => rfl
    | some m =>
      rw [hl] at h
      dsimp only at *
      unfold rightAlone at *
      cases hm : right { x with ps := m }
      · simp
      · rw [hm] at h; simp at h
theorem upE_back {S H : Int} {x : Ev} (h : (upE S H x).2 = 0) : upE (-S) (-H) (upE S H x).1 = (x, 0) := by
  obtain ⟨hx, m, hl, he, hm⟩ := upE_ok h
  rw [he, upE_right hm]
  dsimp only
  rw [lift_back hl]

/-- Events that go up. -/
def ups (S H : Int) : List Ev → Option (List Ev)
  | [] => some []
  | x :: l => if (upE S H x).2 = 0 then (ups S H l).map fun r => (upE S H x).1 :: r else none
theorem tie_up {S H : Int} {p q : P3} (hu : upP S H p = some q) : ∀ {l m : List P3} (t : List Bool), lift S H l = some m → tie (m.zip t) q = tie (l.zip t) p
  | [], m, t, h => by simp [lift] at h; subst h; simp [tie]
  | x :: l, m, [], h => by simp [tie]
  | x :: l, m, b :: t, h => by
    obtain ⟨y, r, hx, hl, rfl⟩ := lift_cons_some h
    rw [List.zip_cons_cons, List.zip_cons_cons, tie_cons, tie_cons, tie_up hu t hl]
    have : (y = q) ↔ (x = p) := by
      constructor
      · intro e
        subst e
        have e1 := up_back hu
        have e2 := up_back hx
        rw [e1] at e2
        exact (Option.some.inj e2).symm
      · intro e
        subst e
        rw [hu] at hx
        exact (Option.some.inj hx).symm
    rw [decide_eq_decide.2 this]
theorem ups_told {S H : Int} : ∀ {l m : List Ev}, ups S H l = some m → (∀ x ∈ l, IsR x) ∧ (∀ x ∈ m, IsR x) ∧ m.map (fun x => (x.b, x.d, x.n, x.e, x.ms, x.s)) = l.map (fun x => (x.b, x.d, x.n, x.e, x.ms, x.s)) ∧
    (∀ q, q ∈ (fl m).map Prod.fst ↔ ∃ p ∈ (fl l).map Prod.fst, upP S H p = some q) ∧ (∀ p ∈ (fl l).map Prod.fst, ∃ q, upP S H p = some q) ∧ (∀ p q, upP S H p = some q → tie (fl m) q = tie (fl l) p)
  | [], m, h => by
    simp [ups] at h; subst h
    exact ⟨by simp, by simp, rfl, by simp [fl], by simp [fl], fun p q _ => by simp [fl, tie]⟩
  | x :: l, m, h => by
    unfold ups at h
    by_cases h0 : (upE S H x).2 = 0
    · rw [if_pos h0] at h
      cases hl : ups S H l with
      | none => rw [hl] at h; cases h
      | some r =>
        rw [hl] at h
        simp only [Option.map_some, Option.some.injEq] at h
        subst h
        obtain ⟨a1, a2, a3, a4, a5, a6⟩ := ups_told hl
        obtain ⟨hx, ps, hp, he, hm⟩ := upE_ok h0
        rw [he]
        have f1 : (pts { x with ps := ps }).map Prod.fst = ps := hm.fst
        refine ⟨fun y hy => ?_, fun y hy => ?_, by rw [List.map_cons, List.map_cons, a3], fun q => ?_, fun p hpm => ?_, fun p q hu => ?_⟩
        · rcases List.mem_cons.1 hy with rfl | hy
          · exact hx
          · exact a1 y hy
        · rcases List.mem_cons.1 hy with rfl | hy
          · exact hm
          · exact a2 y hy
        · rw [fl_cons, fl_cons, List.map_append, List.map_append, List.mem_append, f1, hx.fst, a4 q, lift_mem hp q]
          constructor
          · rintro (⟨p, h1, h2⟩ | ⟨p, h1, h2⟩)
            · exact ⟨p, List.mem_append.2 (Or.inl h1), h2⟩
            · exact ⟨p, List.mem_append.2 (Or.inr h1), h2⟩
          · rintro ⟨p, h1, h2⟩
            rcases List.mem_append.1 h1 with h1 | h1
            · exact Or.inl ⟨p, h1, h2⟩
            · exact Or.inr ⟨p, h1, h2⟩
        · rw [fl_cons, List.map_append, List.mem_append, hx.fst] at hpm
          rcases hpm with hpm | hpm
          · obtain ⟨k, hk⟩ := List.mem_iff_getElem?.1 hpm
            obtain ⟨q, _, hq⟩ := lift_get hp k p hk
            exact ⟨q, hq⟩
          · exact a5 p hpm
        · rw [fl_cons, fl_cons, tie_append, tie_append, a6 p q hu]
          have := tie_up hu x.ts hp
          unfold pts
          rw [this]
    · rw [if_neg h0] at h; cases h
theorem lift_all {S H : Int} : ∀ {l : List P3}, (∀ p ∈ l, ∃ q, upP S H p = some q) → ∃ m, lift S H l = some m
  | [], _ => ⟨[], rfl⟩
  | x :: l, h => by
    obtain ⟨y, hy⟩ := h x (by simp)
    obtain ⟨m, hm⟩ := lift_all (l := l) fun p hp => h p (by simp [hp])
    exact ⟨y :: m, by rw [lift, hy, hm]; rfl⟩
theorem lift_tie {S H : Int} {f g : P3 → Bool} : ∀ {l m : List P3}, lift S H l = some m → (∀ p q, upP S H p = some q → g q = f p) → m.map g = l.map f
  | [], m, h, _ => by simp [lift] at h; subst h; rfl
  | x :: l, m, h, hg => by
    obtain ⟨y, r, hx, hl, rfl⟩ := lift_cons_some h
    rw [List.map_cons, List.map_cons, hg x y hx, lift_tie hl hg]
theorem mk_congr {l m : List Ev} (h : m.map (fun x => (x.b, x.d, x.n, x.e, x.ms, x.s)) = l.map (fun x => (x.b, x.d, x.n, x.e, x.ms, x.s))) : mk m = mk l := by
  have e : m.map (·.ms) = l.map (·.ms) := by
    have := congrArg (List.map fun y : Int × Int × Int × Int × List Int × ByteArray => y.2.2.2.2.1) h
    simpa [List.map_map, Function.comp_def] using this
  have key : ∀ (l : List Ev) (k : Int), (l.any fun x => x.ms.contains k) = ((l.map (·.ms)).any fun x => x.contains k) := by
    intro l k; rw [List.any_map]; rfl
  unfold mk
  refine List.filter_congr fun k _ => ?_
  rw [key m, key l, e]
theorem fw_congr : ∀ {l m : List Ev}, m.map (fun x => (x.b, x.d, x.n, x.e, x.ms, x.s)) = l.map (fun x => (x.b, x.d, x.n, x.e, x.ms, x.s)) → fw m = fw l
  | [], [], _ => rfl
  | [], y :: m, h => by simp at h
  | x :: l, [], h => by simp at h
  | x :: l, y :: m, h => by
    simp only [List.map_cons, List.cons.injEq, Prod.mk.injEq] at h
    unfold fw
    rw [h.1.2.2.2.2.2, fw_congr h.2]
theorem same_congr {x y : Ev} : ∀ {l m : List Ev}, (y.b = x.b ∧ y.d = x.d ∧ y.n = x.n ∧ y.e = x.e) → m.map (fun x => (x.b, x.d, x.n, x.e, x.ms, x.s)) = l.map (fun x => (x.b, x.d, x.n, x.e, x.ms, x.s)) → m.all (sameVal y) = l.all (sameVal x)
  | [], [], _, _ => rfl
  | [], y :: m, _, h => by simp at h
  | x :: l, [], _, h => by simp at h
  | a :: l, b :: m, e, h => by
    simp only [List.map_cons, List.cons.injEq, Prod.mk.injEq] at h
    obtain ⟨⟨h1, h2, h3, h4, _⟩, h5⟩ := h
    obtain ⟨e1, e2, e3, e4⟩ := e
    rw [List.all_cons, List.all_cons, same_congr ⟨e1, e2, e3, e4⟩ h5]
    unfold sameVal
    rw [h1, h2, h3, h4, e1, e2, e3, e4]
/-- What goes up and is put together is what is put together and goes up. -/
theorem chordE_up {S H : Int} {l m : List Ev} (h : ups S H l = some m) : (chordE m).2 = (chordE l).2 ∧ ((chordE l).2 = 0 → upE S H (chordE l).1 = ((chordE m).1, 0)) := by
  obtain ⟨a1, a2, a3, a4, a5, a6⟩ := ups_told h
  cases l with
  | nil => simp [ups] at h; subst h; exact ⟨rfl, fun h => by simp [chordE] at h⟩
  | cons x l =>
    cases m with
    | nil => simp at a3
    | cons y m =>
      have ev : (y.b = x.b ∧ y.d = x.d ∧ y.n = x.n ∧ y.e = x.e) := by
        simp only [List.map_cons, List.cons.injEq, Prod.mk.injEq] at a3
        exact ⟨a3.1.1, a3.1.2.1, a3.1.2.2.1, a3.1.2.2.2.1⟩
      have r1 : (x :: l).all right = true := List.all_eq_true.2 fun z hz => (right_iff z).2 (a1 z hz)
      have r2 : (y :: m).all right = true := List.all_eq_true.2 fun z hz => (right_iff z).2 (a2 z hz)
      rw [chordE_cons, chordE_cons, r1, r2, same_congr ev a3]
      simp only [Bool.not_true, Bool.false_eq_true, if_false]
      cases hv : (x :: l).all (sameVal x)
      · exact ⟨rfl, fun h => by simp at h⟩
      · simp only [Bool.not_true, Bool.false_eq_true, if_false]
        obtain ⟨b1, b2, b3, b4⟩ := allP_told (fl_rgt a1)
        obtain ⟨mm, hmm⟩ := lift_all (S := S) (H := H) (l := (allP (x :: l)).map Prod.fst) fun p hp => a5 p ((b3 p).1 hp)
        obtain ⟨c1, c2⟩ := allP_is (fl_rgt a2) (lift_asc hmm (ascT_fst.1 b2)) fun q => by
          rw [a4 q, lift_mem hmm q]
          constructor
          · rintro ⟨p, h1, h2⟩; exact ⟨p, (b3 p).1 h1, h2⟩
          · rintro ⟨p, h1, h2⟩; exact ⟨p, (b3 p).2 h1, h2⟩
        have c3 : (allP (y :: m)).map Prod.snd = (allP (x :: l)).map Prod.snd := by
          rw [c2, ascT_told b2]
          exact lift_tie hmm fun p q hu => by rw [a6 p q hu, b4 p]
        have cl : (allP (y :: m)).length = (allP (x :: l)).length := by
          have := congrArg List.length c1
          rw [List.length_map, lift_length S H _ _ hmm, List.length_map] at this
          exact this
        have cn : allP (y :: m) = [] ↔ allP (x :: l) = [] := by
          rw [← List.length_eq_zero_iff, cl, List.length_eq_zero_iff]
        have ho : one y m = { one x l with ps := mm } := by
          refine Ev.ext' ?_ c1 c3 ev.1 ev.2.1 ev.2.2.1 ev.2.2.2 (mk_congr a3) (fw_congr a3)
          show (if allP (y :: m) = [] then (0 : Int) else 1) = if allP (x :: l) = [] then 0 else 1
          by_cases e : allP (x :: l) = []
          · rw [if_pos e, if_pos (cn.2 e)]
          · rw [if_neg e, if_neg (fun k => e (cn.1 k))]
        unfold rightAlone
        rw [right_one a2, right_one a1, cl]
        by_cases h8 : (allP (x :: l)).length ≤ 8
        · rw [decide_eq_true h8]
          refine ⟨rfl, fun _ => ?_⟩
          show upE S H (one x l) = (one y m, 0)
          rw [upE_right (one_isR a1 h8)]
          show (match lift S H ((allP (x :: l)).map Prod.fst) with | some ps => ({ one x l with ps := ps }, (0 : Int)) | none => (zero, 20)) = _
          rw [hmm, ho]
        · rw [decide_eq_false h8]
          exact ⟨rfl, fun h => by simp at h⟩
theorem ups_none {S H : Int} : ∀ {l : List Ev}, ups S H l = none → ∃ (k : Nat) (x : Ev), l[k]? = some x ∧ (upE S H x).2 ≠ 0
  | [], h => by simp [ups] at h
  | x :: l, h => by
    unfold ups at h
    by_cases h0 : (upE S H x).2 = 0
    · rw [if_pos h0] at h
      cases hl : ups S H l with
      | none => obtain ⟨k, y, h1, h2⟩ := ups_none hl; exact ⟨k + 1, y, by simpa using h1, h2⟩
      | some r => rw [hl] at h; cases h
    · exact ⟨0, x, rfl, h0⟩
end Go.Proofs.YtobhmiknlbjmkaaDoor.Evt
