/-
  Facts for MeterParts: the beats between two places, parted at a third one; a row of ratios in memory, appended; append where the operation may be guarded.
-/
import Derived.Test.YtlodhfdikglgoaaMetLaw
import Derived.Maps.AppendAt
import Derived.Deep.AppendLies
namespace Go.Proofs.Ytlodhfdikglgoaa
open Go.RowKit

namespace Met
theorem split_out {p q r : Int} (hpq : p < q) (hqr : q < r) : ∀ bs : List Int, bs.Pairwise (fun x y => x < y) → q ∉ bs →
    bs.filter (fun b => decide (p < b ∧ b < r)) = bs.filter (fun b => decide (p < b ∧ b < q)) ++ bs.filter (fun b => decide (q < b ∧ b < r))
  | [], _, _ => rfl
  | b :: bs, hp, hq => by
    obtain ⟨h1, h2⟩ := List.pairwise_cons.1 hp
    have ih := split_out hpq hqr bs h2 (fun h => hq (List.mem_cons_of_mem _ h))
    have hb : b ≠ q := fun e => hq (by rw [e]; exact List.mem_cons_self)
    by_cases c1 : b < q
    · by_cases c0 : p < b
      · rw [List.filter_cons_of_pos (by simp; omega), List.filter_cons_of_pos (by simp; omega), List.filter_cons_of_neg (by simp; omega), ih]
        rfl
      · rw [List.filter_cons_of_neg (by simp; omega), List.filter_cons_of_neg (by simp; omega), List.filter_cons_of_neg (by simp; omega), ih]
    · have hall : ∀ x ∈ b :: bs, q < x := fun x hx => by
        rcases List.mem_cons.1 hx with rfl | hx
        · omega
        · have := h1 x hx; omega
      rw [show (b :: bs).filter (fun b => decide (p < b ∧ b < q)) = [] from List.filter_eq_nil_iff.2 (fun x hx => by have := hall x hx; simp; omega), List.nil_append]
      exact List.filter_congr (fun x hx => by have := hall x hx; rw [decide_eq_decide]; omega)
theorem split_in {p q r : Int} (hpq : p < q) (hqr : q < r) : ∀ bs : List Int, bs.Pairwise (fun x y => x < y) → q ∈ bs →
    bs.filter (fun b => decide (p < b ∧ b < r)) = bs.filter (fun b => decide (p < b ∧ b < q)) ++ q :: bs.filter (fun b => decide (q < b ∧ b < r))
  | [], _, hq => by simp at hq
  | b :: bs, hp, hq => by
    obtain ⟨h1, h2⟩ := List.pairwise_cons.1 hp
    by_cases hb : b = q
    · subst hb
      have hall : ∀ x ∈ bs, b < x := h1
      rw [List.filter_cons_of_pos (by simp; omega), List.filter_cons_of_neg (by simp), List.filter_cons_of_neg (by simp)]
      rw [show bs.filter (fun x => decide (p < x ∧ x < b)) = [] from List.filter_eq_nil_iff.2 (fun x hx => by have := hall x hx; simp; omega), List.nil_append]
      exact congrArg _ (List.filter_congr (fun x hx => by have := hall x hx; rw [decide_eq_decide]; omega))
    · have hq' : q ∈ bs := by
        rcases List.mem_cons.1 hq with e | e
        · exact absurd e.symm hb
        · exact e
      have hlt := h1 q hq'
      have ih := split_in hpq hqr bs h2 hq'
      by_cases c0 : p < b
      · rw [List.filter_cons_of_pos (by simp; omega), List.filter_cons_of_pos (by simp; omega), List.filter_cons_of_neg (by simp; omega), ih]
        rfl
      · rw [List.filter_cons_of_neg (by simp; omega), List.filter_cons_of_neg (by simp; omega), List.filter_cons_of_neg (by simp; omega), ih]
theorem dif_in {p q r : Int} {bs : List Int} (hpq : p < q) (hqr : q < r) (hs : bs.Pairwise (fun x y => x < y)) (hq : q ∈ bs) : dif (zs p r bs) = dif (zs p q bs) ++ dif (zs q r bs) := by
  unfold zs
  rw [split_in hpq hqr bs hs hq]
  generalize bs.filter (fun b => decide (p < b ∧ b < q)) = F1
  obtain ⟨y, m, e⟩ : ∃ y m, bs.filter (fun b => decide (q < b ∧ b < r)) ++ [r] = y :: m := by
    cases bs.filter (fun b => decide (q < b ∧ b < r))
    · exact ⟨_, _, rfl⟩
    · exact ⟨_, _, rfl⟩
  rw [e, List.append_assoc, List.cons_append, e, show p :: (F1 ++ q :: y :: m) = (p :: F1) ++ q :: y :: m from rfl, dif_append]
  rfl
theorem dif_out {p q r : Int} {bs : List Int} (hpq : p < q) (hqr : q < r) (hs : bs.Pairwise (fun x y => x < y)) (hq : q ∉ bs) :
    ∃ A u v B, dif (zs p q bs) = A ++ [u] ∧ dif (zs q r bs) = v :: B ∧ dif (zs p r bs) = A ++ (u + v) :: B ∧ 0 ≤ u ∧ u ≤ q - p ∧ 0 ≤ v ∧ v ≤ r - q := by
  unfold zs
  rw [split_out hpq hqr bs hs hq]
  have hF1 : ∀ x ∈ bs.filter (fun b => decide (p < b ∧ b < q)), p < x ∧ x < q := fun x hx => by simpa using (List.mem_filter.1 hx).2
  have hF2 : ∀ x ∈ bs.filter (fun b => decide (q < b ∧ b < r)), q < x ∧ x < r := fun x hx => by simpa using (List.mem_filter.1 hx).2
  generalize bs.filter (fun b => decide (p < b ∧ b < q)) = F1 at *
  generalize bs.filter (fun b => decide (q < b ∧ b < r)) = F2 at *
  obtain ⟨y, m, e⟩ : ∃ y m, F2 ++ [r] = y :: m := by
    cases F2
    · exact ⟨_, _, rfl⟩
    · exact ⟨_, _, rfl⟩
  obtain ⟨l, x, e1⟩ : ∃ l x, p :: F1 = l ++ [x] := ⟨_, _, (List.dropLast_concat_getLast (List.cons_ne_nil p F1)).symm⟩
  have hx : p ≤ x ∧ x < q := by
    have : x ∈ p :: F1 := by rw [e1]; simp
    rcases List.mem_cons.1 this with rfl | h
    · omega
    · have := hF1 x h; omega
  have hy : q < y ∧ y ≤ r := by
    have : y ∈ F2 ++ [r] := by rw [e]; simp
    rcases List.mem_append.1 this with h | h
    · have := hF2 y h; omega
    · obtain rfl : y = r := by simpa using h
      omega
  refine ⟨dif (l ++ [x]), q - x, y - q, dif (y :: m), ?_, ?_, ?_, by omega, by omega, by omega, by omega⟩
  · rw [show p :: (F1 ++ [q]) = l ++ x :: q :: [] by rw [show p :: (F1 ++ [q]) = (p :: F1) ++ [q] from rfl, e1]; simp, dif_append]
    rfl
  · rw [e]
    rfl
  · rw [show p :: (F1 ++ F2 ++ [r]) = l ++ x :: y :: m by rw [show p :: (F1 ++ F2 ++ [r]) = (p :: F1) ++ F2 ++ [r] from rfl, e1]; simp [e], dif_append, show q - x + (y - q) = y - x by omega]
end Met

theorem rowP_inv : ∀ (l : List Met.Pr) (j : Nat) (u : Value), (rowP l)[j]? = some u → ∃ (i : Nat) (x : Met.Pr), l[i]? = some x ∧ ((j = i * 2 ∧ u = .int .i64 x.1) ∨ (j = i * 2 + 1 ∧ u = .int .i64 x.2))
  | [], j, u, h => by simp [rowP] at h
  | p :: l, 0, u, h => by
    rw [show p :: l = [p] ++ l from rfl, rowP_append, rowP_one] at h
    simp at h
    exact ⟨0, p, rfl, .inl ⟨rfl, h.symm⟩⟩
  | p :: l, 1, u, h => by
    rw [show p :: l = [p] ++ l from rfl, rowP_append, rowP_one] at h
    simp at h
    exact ⟨0, p, rfl, .inr ⟨rfl, h.symm⟩⟩
  | p :: l, j + 2, u, h => by
    rw [show p :: l = [p] ++ l from rfl, rowP_append, rowP_one] at h
    obtain ⟨i, x, h1, h2⟩ := rowP_inv l j u (by simpa using h)
    refine ⟨i + 1, x, by simpa using h1, ?_⟩
    rcases h2 with ⟨e, h2⟩ | ⟨e, h2⟩
    · exact .inl ⟨by omega, h2⟩
    · exact .inr ⟨by omega, h2⟩
theorem rowP_length (l : List Met.Pr) : (rowP l).length = l.length * 2 := by
  induction l with
  | nil => rfl
  | cons p l ih => rw [show p :: l = [p] ++ l from rfl, rowP_append, rowP_one, List.length_append, ih]; simp; omega
theorem rowP_cells (l : List Met.Pr) : ∀ u ∈ rowP l, u.oneCell' = true := fun u hu => by
  obtain ⟨j, hj⟩ := List.getElem?_of_mem hu
  obtain ⟨i, x, _, ⟨_, rfl⟩ | ⟨_, rfl⟩⟩ := rowP_inv l j u hj <;> rfl
theorem prs_news {W : World} {b o n c : Nat} {l : List Met.Pr} (h : Prs W (.slice (some ⟨b, o, none⟩) n c) l) : ∀ (j : Nat) (u : Value), (rowP l)[j]? = some u → W.cell? (Addr.add ⟨b, o, none⟩ j) = some u := by
  intro j u hj
  obtain ⟨p, c', e, _, hc⟩ := h
  obtain ⟨i, x, hx, h2⟩ := rowP_inv l j u hj
  obtain ⟨b', o', e', c0, c1⟩ := hc i x hx
  subst e'
  cases e
  rw [show Addr.add ⟨b, o, none⟩ j = ⟨b, o + j, none⟩ by unfold Addr.add; split <;> simp_all]
  rcases h2 with ⟨rfl, rfl⟩ | ⟨rfl, rfl⟩
  · exact c0
  · rw [← Nat.add_assoc]; exact c1
theorem prs_at {W : World} {b o n c i : Nat} {x : Met.Pr} {l : List Met.Pr} (h : Prs W (.slice (some ⟨b, o, none⟩) n c) l) (hx : l[i]? = some x) : W.cell? ⟨b, o + i * 2, none⟩ = some (.int .i64 x.1) ∧ W.cell? ⟨b, o + i * 2 + 1, none⟩ = some (.int .i64 x.2) := by
  obtain ⟨p, c', e, _, hc⟩ := h
  obtain ⟨b', o', e', c0, c1⟩ := hc i x hx
  subst e'
  cases e
  exact ⟨c0, c1⟩
theorem prs_open {W : World} {v : Value} {l : List Met.Pr} (h : PrsC W v l) (hl : 0 < l.length) : ∃ b o c, v = .slice (some ⟨b, o, none⟩) l.length c ∧ l.length ≤ c ∧ Prs W (.slice (some ⟨b, o, none⟩) l.length c) l := by
  obtain ⟨⟨p, c, rfl, h1, h2⟩, p', n', c', e, hc⟩ := h
  obtain ⟨b, o, rfl, _⟩ := h2 0 l[0] (by simp [hl])
  cases e
  exact ⟨b, o, c, rfl, hc, _, c, rfl, h1, h2⟩
theorem prs_take {W : World} {b o n c c' : Nat} {l m : List Met.Pr} (h : Prs W (.slice (some ⟨b, o, none⟩) n c) (l ++ m)) : Prs W (.slice (some ⟨b, o, none⟩) l.length c') l := by
  obtain ⟨p, c1, e, h1, h2⟩ := h
  cases e
  exact ⟨_, c', rfl, by rw [List.length_append] at h1; omega, fun i x hx => h2 i x (by rw [List.getElem?_append_left (List.getElem?_eq_some_iff.1 hx).1]; exact hx)⟩
theorem prs_tail {W : World} {b o n c c' : Nat} {x : Met.Pr} {l : List Met.Pr} (h : Prs W (.slice (some ⟨b, o, none⟩) n c) (x :: l)) : Prs W (.slice (some ⟨b, o + 2, none⟩) l.length c') l := by
  obtain ⟨p, c1, e, h1, h2⟩ := h
  cases e
  exact ⟨_, c', rfl, by rw [List.length_cons] at h1; omega, fun i x hx => by
    obtain ⟨b', o', e, c0, c1⟩ := h2 (i + 1) x (by simpa using hx)
    cases e
    exact ⟨b, o + 2, rfl, by rw [show o + 2 + i * 2 = o + (i + 1) * 2 by omega]; exact c0, by rw [show o + 2 + i * 2 = o + (i + 1) * 2 by omega]; exact c1⟩⟩

section
variable {P : Program} (w : World)
theorem wp_append_at {o : Oper} {a : Act} {K : Act → World → Prop} {Q : Exit → Act → World → Prop} (s x : Operand) (t : TypeId)
    (ho : o.op = .call { callee := .builtin .append, args := #[s, x], argTypes := #[t, t] })
    (base : Nat) (e : TypeId) (i : TypeInfo) (z : Value) (size bytes : Nat) (ht : P.underlying t = some (.slice e)) (hi : P.info? e = some i) (hz : i.zero = some z)
    (hsize : i.size = size) (hby : i.bytes = bytes) (hzs : z.cells.size = size) (hsz : 0 < size)
    (v : Value) (n : Nat) (xs : List Value) (hs : a.eval s = v) (hown : w.ownsRow base e size v n xs)
    (ad : Addr) (m c : Nat) (news : List Value) (hx : a.eval x = .slice (some ad) m c) (hl : news.length = m * size) (hnews : ∀ j u, news[j]? = some u → w.cell? (ad.add j) = some u) (h1 : ∀ u ∈ news, u.oneCell' = true)
    (h63 : n + m ≤ maxLen) (hbytes : (n + m) * bytes ≤ 140737488355328) (hbase : base ≤ w.heap.size)
    (h : ∀ v' w', w'.ownsRow base e size v' (n + m) (xs ++ news) → w.grownBy w' v.ownBlock → K (a.put o.dst v') w') : o.wp P a w K Q := by
  obtain ⟨v', w', hr, h2, h3, _, _⟩ := run_append_own_at (P := P) w base t o.type e i z size bytes ht hi hz hsize hby hzs hsz v n xs hown ad m c news hl hnews h1 h63 hbytes hbase
  unfold Oper.wp execOp
  simp only [ho, resolve, invoke, builtin, Sem.run_bind, Sem.run_pure, Result.andThen_ok, List.map_toArray, List.map_cons, List.map_nil, hs, hx, hr]
  exact h v' w' h2 h3
/-- At the list of operations, guarded or not. -/
theorem wpList_append_on {ops : Array Oper} {rest : List Oper} {o : Oper} {a : Act} {Q : Exit → Act → World → Prop} (hw : Region.wanted o (yielded ops a.tmps) = true) (s x : Operand) (t : TypeId)
    (ho : o.op = .call { callee := .builtin .append, args := #[s, x], argTypes := #[t, t] })
    (base : Nat) (e : TypeId) (i : TypeInfo) (z : Value) (size bytes : Nat) (ht : P.underlying t = some (.slice e)) (hi : P.info? e = some i) (hz : i.zero = some z)
    (hsize : i.size = size) (hby : i.bytes = bytes) (hzs : z.cells.size = size) (hsz : 0 < size)
    (v : Value) (n : Nat) (xs : List Value) (hs : a.eval s = v) (hown : w.ownsRow base e size v n xs)
    (ad : Addr) (m c : Nat) (news : List Value) (hx : a.eval x = .slice (some ad) m c) (hl : news.length = m * size) (hnews : ∀ j u, news[j]? = some u → w.cell? (ad.add j) = some u) (h1 : ∀ u ∈ news, u.oneCell' = true)
    (h63 : n + m ≤ maxLen) (hbytes : (n + m) * bytes ≤ 140737488355328) (hbase : base ≤ w.heap.size)
    (h : ∀ v' w', w'.ownsRow base e size v' (n + m) (xs ++ news) → w.grownBy w' v.ownBlock → wpList P ops Q rest (a.put o.dst v') w') : wpList P ops Q (o :: rest) a w :=
  wpList_step fun K hK => by
    rw [if_pos hw]
    exact wp_append_at w s x t ho base e i z size bytes ht hi hz hsize hby hzs hsz v n xs hs hown ad m c news hx hl hnews h1 h63 hbytes hbase fun v' w' h2 h3 => hK _ _ (h v' w' h2 h3)
/-- At a step of a region that draws its order. -/
theorem step_append_at {ops : Array Oper} {o : Oper} {a : Act} {K : Act → World → Prop} {Q : Exit → Act → World → Prop} {E : Prop} (hgd : o.guard = none) (s x : Operand) (t : TypeId)
    (ho : o.op = .call { callee := .builtin .append, args := #[s, x], argTypes := #[t, t] })
    (base : Nat) (e : TypeId) (i : TypeInfo) (z : Value) (size bytes : Nat) (ht : P.underlying t = some (.slice e)) (hi : P.info? e = some i) (hz : i.zero = some z)
    (hsize : i.size = size) (hby : i.bytes = bytes) (hzs : z.cells.size = size) (hsz : 0 < size)
    (v : Value) (n : Nat) (xs : List Value) (hs : a.eval s = v) (hown : w.ownsRow base e size v n xs)
    (ad : Addr) (m c : Nat) (news : List Value) (hx : a.eval x = .slice (some ad) m c) (hl : news.length = m * size) (hnews : ∀ j u, news[j]? = some u → w.cell? (ad.add j) = some u) (h1 : ∀ u ∈ news, u.oneCell' = true)
    (h63 : n + m ≤ maxLen) (hbytes : (n + m) * bytes ≤ 140737488355328) (hbase : base ≤ w.heap.size)
    (h : ∀ v' w', w'.ownsRow base e size v' (n + m) (xs ++ news) → w.grownBy w' v.ownBlock → K (a.put o.dst v') w') :
    if Region.wanted o (yielded ops a.tmps) = true then Oper.wp P o a w K Q else E := by
  rw [if_pos (by simp [Region.wanted, hgd])]
  exact wp_append_at w s x t ho base e i z size bytes ht hi hz hsize hby hzs hsz v n xs hs hown ad m c news hx hl hnews h1 h63 hbytes hbase h
end
end Go.Proofs.Ytlodhfdikglgoaa
