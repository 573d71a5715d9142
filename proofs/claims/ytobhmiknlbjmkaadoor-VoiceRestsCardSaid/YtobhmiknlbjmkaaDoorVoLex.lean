/-
  A long region that draws its order: that the text's order is one of its orders, and that each operation may come first, told by one look at each pair.
-/
import Derived.Test.YtobhmiknlbjmkaaDoorVoEx
namespace Go.Proofs.YtobhmiknlbjmkaaDoor
open Go.RowKit Go.Sort

def aftB (md : Region.Mode) : Nat → List Oper → Bool
  | _, [] => true
  | k, o :: l => o.after.all (fun e => !Region.binds md e || Nat.blt e.on k) && aftB md (k + 1) l
def aptB (md : Region.Mode) (ops : Array Oper) : Nat → List Oper → Bool
  | _, [] => true
  | i, o :: l => l.all (fun q => q.after.any (fun e => Region.binds md e && e.on == i) || o.apart ops q) && aptB md ops (i + 1) l
theorem aftB_at (md : Region.Mode) : ∀ (l : List Oper) (k : Nat), aftB md k l = true → ∀ (j : Nat) (o : Oper), l[j]? = some o → ∀ e ∈ o.after, Region.binds md e = true → e.on < k + j
  | [], _, _, j, o, h, _, _, _ => by simp at h
  | x :: l, k, h, 0, o, ho, e, he, hb => by
    simp at ho
    subst ho
    rw [aftB, Bool.and_eq_true] at h
    have h1 := h.1
    rw [Array.all_eq_true_iff_forall_mem] at h1
    have h2 := h1 e he
    rw [hb] at h2
    have h3 : Nat.blt e.on k = true := by simpa using h2
    have := Nat.le_of_ble_eq_true h3
    omega
  | x :: l, k, h, j + 1, o, ho, e, he, hb => by
    rw [aftB, Bool.and_eq_true] at h
    have := aftB_at md l (k + 1) h.2 j o (by simpa using ho) e he hb
    omega
theorem aptB_at (md : Region.Mode) (ops : Array Oper) (l : List Oper) : ∀ (k : Nat), aptB md ops k l = true → ∀ (i j : Nat) (a b : Oper), i < j → l[i]? = some a → l[j]? = some b → (b.after.any (fun e => Region.binds md e && e.on == k + i) || a.apart ops b) = true := by
  induction l with
  | nil => intro k _ i j a b _ h _; simp at h
  | cons x l ih =>
    intro k h i j a b hij ha hb
    rw [aptB, Bool.and_eq_true] at h
    obtain ⟨j, rfl⟩ : ∃ j', j = j' + 1 := ⟨j - 1, by omega⟩
    rw [List.getElem?_cons_succ] at hb
    rcases i with _ | i
    · rw [List.getElem?_cons_zero] at ha
      cases ha
      exact List.all_eq_true.1 h.1 b (List.mem_of_getElem? hb)
    · rw [List.getElem?_cons_succ] at ha
      have := ih (k + 1) h.2 i j a b (by omega) ha hb
      rw [show k + (i + 1) = k + 1 + i by omega]
      exact this
/-- The first k are listed. -/
def FirstK (n k : Nat) (t : Array Bool) : Prop := t.size = n ∧ ∀ j, j < n → t[j]? = some (decide (j < k))
theorem FirstK.getD {n k : Nat} {t : Array Bool} (h : FirstK n k t) {j : Nat} (hj : j < n) (d : Bool) : t.getD j d = decide (j < k) := by
  rw [Array.getD_eq_getD_getElem?, h.2 j hj]
  rfl
theorem FirstK.step {n k : Nat} {t : Array Bool} (h : FirstK n k t) (hk : k < n) : FirstK n (k + 1) (t.setIfInBounds k true) := by
  refine ⟨by rw [Array.size_setIfInBounds]; exact h.1, fun j hj => ?_⟩
  rw [Array.getElem?_setIfInBounds]
  split
  · rename_i e
    subst e
    rw [if_pos (by rw [h.1]; exact hk)]
    simp
  · rename_i hne
    rw [h.2 j hj]
    congr 1
    exact decide_eq_decide.2 ⟨fun a => by omega, fun a => by omega⟩
theorem lexFrom_of {md : Region.Mode} {l : List Oper} (h1 : aftB md 0 l = true) (h2 : aptB md l.toArray 0 l = true) : ∀ (fuel k : Nat) (t : Array Bool), k + fuel = l.length → FirstK l.length k t → Region.lexFrom md l.toArray fuel k t = true
  | 0, k, t, hk, ht => by
    rw [Region.lexFrom, List.isEmpty_iff]
    unfold Region.ready
    rw [List.filter_eq_nil_iff]
    intro i hi
    have hi' : i < l.length := by simpa using hi
    rw [ht.getD hi']
    have : i < k := by omega
    simp [this]
  | fuel + 1, k, t, hk, ht => by
    have hkn : k < l.length := by omega
    obtain ⟨o, ho⟩ : ∃ o, l[k]? = some o := ⟨_, List.getElem?_eq_getElem hkn⟩
    rw [Region.lexFrom, Bool.and_eq_true, Bool.and_eq_true]
    refine ⟨⟨?_, ?_⟩, lexFrom_of h1 h2 fuel (k + 1) _ (by omega) (ht.step hkn)⟩
    · rw [List.contains_iff_mem]
      unfold Region.ready
      rw [List.mem_filter]
      refine ⟨by simpa using hkn, ?_⟩
      rw [ht.getD hkn, List.getElem?_toArray, ho, Option.map_some, Option.getD_some, Bool.and_eq_true]
      refine ⟨by simp, ?_⟩
      rw [Array.all_eq_true_iff_forall_mem]
      intro e he
      cases hb : Region.binds md e
      · rfl
      · have := aftB_at md l 0 h1 k o ho e he hb
        rw [ht.getD (by omega)]
        simp
        omega
    · unfold Region.free
      rw [List.getElem?_toArray, ho]
      simp only [List.all_eq_true, List.mem_range, List.size_toArray]
      intro j hj
      rw [ht.getD hj]
      by_cases hjk : j = k
      · subst hjk; simp
      · by_cases hlt : j < k
        · simp [hlt]
        · obtain ⟨q, hq⟩ : ∃ q, l[j]? = some q := ⟨_, List.getElem?_eq_getElem hj⟩
          have := aptB_at md l.toArray l 0 h2 k j o q (by omega) ho hq
          rw [Nat.zero_add] at this
          rw [List.getElem?_toArray, hq]
          dsimp only
          rw [this]
          simp
theorem lexB_of {md : Region.Mode} {l : List Oper} (h0 : Region.noSelect l.toArray = true) (h1 : aftB md 0 l = true) (h2 : aptB md l.toArray 0 l = true) : Region.lexB md l.toArray = true := by
  unfold Region.lexB
  rw [Bool.and_eq_true]
  refine ⟨h0, lexFrom_of h1 h2 _ 0 _ (by simp) ⟨by simp, fun j hj => ?_⟩⟩
  rw [List.size_toArray, Array.getElem?_replicate, if_pos hj]
  rfl
end Go.Proofs.YtobhmiknlbjmkaaDoor
