/-
  The contract of key.Scale.
-/
import Derived.Test.YtahcbgngdpjhkaaDoorKeyJ
import Derived.OwnWalk
namespace Go.Proofs.YtahcbgngdpjhkaaDoor
open Go.RowKit

abbrev Trip := Int × Int × Int
def rowOf (l : List Trip) : List Value := l.flatMap fun p => [.int .i64 p.1, .int .i64 p.2.1, .int .i64 p.2.2]
theorem rowOf_append (l m : List Trip) : rowOf (l ++ m) = rowOf l ++ rowOf m := by unfold rowOf; simp
theorem rowOf_length (l : List Trip) : (rowOf l).length = 3 * l.length := by
  induction l with
  | nil => rfl
  | cons x l ih => rw [show x :: l = [x] ++ l from rfl, rowOf_append, List.length_append, ih, List.length_append]; simp [rowOf]; omega
theorem rowOf_at (f : Nat → Trip) {n i : Nat} (h : i < n) : (rowOf (Key.upto f n))[i * 3]? = some (.int .i64 (f i).1) ∧ (rowOf (Key.upto f n))[i * 3 + 1]? = some (.int .i64 (f i).2.1) ∧ (rowOf (Key.upto f n))[i * 3 + 2]? = some (.int .i64 (f i).2.2) := by
  induction n with
  | zero => omega
  | succ n ih =>
    have hl := rowOf_length (Key.upto f n)
    rw [Key.upto_length] at hl
    rw [Key.upto_succ, rowOf_append]
    by_cases hi : i < n
    · obtain ⟨a, b, c⟩ := ih hi
      rw [List.getElem?_append_left (by omega), List.getElem?_append_left (by omega), List.getElem?_append_left (by omega)]
      exact ⟨a, b, c⟩
    · obtain rfl : i = n := by omega
      rw [List.getElem?_append_right (by omega), List.getElem?_append_right (by omega), List.getElem?_append_right (by omega), hl, show i * 3 - 3 * i = 0 by omega, show i * 3 + 1 - 3 * i = 1 by omega, show i * 3 + 2 - 3 * i = 2 by omega]
      exact ⟨rfl, rfl, rfl⟩
theorem own_later {w w' : World} {base : Nat} {e : TypeId} {size : Nat} {v : Value} {n : Nat} {xs : List Value} (h : w.ownsRow base e size v n xs) (hb : Below w.heap.size w w') : w'.ownsRow base e size v n xs :=
  h.kept (row := none) ⟨hb.os, hb.tape, hb.output, hb.size, fun k hk _ => hb.block k hk⟩ (by cases hv : v.ownBlock <;> simp)
theorem infoP : (Tryd.prog.info? 42).map (fun i => (i.zero, i.size, i.bytes)) = some (some (.agg #[.int .i64 0, .int .i64 0, .int .i64 0]), 3, 24) := by kernel_rfl
/-- A store into a block that lies ahead of the row leaves the row. -/
theorem own_set {w : World} {base B o : Nat} {x : Value} {e : TypeId} {size : Nat} {v : Value} {n : Nat} {xs : List Value} (h : w.ownsRow base e size v n xs) (hB : B < base) : (w.setCell ⟨B, o, none⟩ x).ownsRow base e size v n xs :=
  h.kept (row := some B) ⟨rfl, rfl, rfl, by simp [World.setCell], fun k _ hk => Below.heap_setCell _ _ _ _ (fun e => hk (by rw [e]))⟩ (.inr (fun e => by have := (h.lt B e).1; omega))
/-- A list of pitches in memory. -/
def Row (W : World) (v : Value) (f : Nat → Trip) (n : Nat) : Prop :=
  ∃ g cap, v = .slice (some ⟨g, 0, none⟩) n cap ∧ ∀ i, i < n → W.cell? ⟨g, i * 3, none⟩ = some (.int .i64 (f i).1) ∧ W.cell? ⟨g, i * 3 + 1, none⟩ = some (.int .i64 (f i).2.1) ∧ W.cell? ⟨g, i * 3 + 2, none⟩ = some (.int .i64 (f i).2.2)
theorem Row.later {W W' : World} {v : Value} {f : Nat → Trip} {n : Nat} (h : Row W v f n) (hb : Below W.heap.size W W') : Row W' v f n := by
  obtain ⟨g, cap, rfl, hc⟩ := h
  exact ⟨g, cap, rfl, fun i hi => ⟨cell_later hb (hc i hi).1, cell_later hb (hc i hi).2.1, cell_later hb (hc i hi).2.2⟩⟩
theorem cell_of_cells {W : World} {g j : Nat} {cur : Array Value} {e : TypeId} {v : Value} (h : W.heap[g]? = some (.cells cur e (0, 0))) (hc : cur[j]? = some v) : W.cell? ⟨g, j, none⟩ = some v := by
  unfold World.cell?
  simp [h, hc]
theorem row_of {W : World} {base : Nat} {e : TypeId} {v : Value} {f : Nat → Trip} {n : Nat} (hn : 0 < n) (h : W.ownsRow base e 3 v n (rowOf (Key.upto f n))) : Row W v f n := by
  obtain ⟨hl, ⟨_, h0⟩ | ⟨g, cap, cur, rfl, _, hg, hcap, _, hsz, ht⟩⟩ := h
  · omega
  · refine ⟨g, cap, rfl, fun i hi => ?_⟩
    have key : ∀ j, j < n * 3 → cur[j]? = (rowOf (Key.upto f n))[j]? := fun j hj => by
      rw [← ht, List.getElem?_take, if_pos hj, Array.getElem?_toList]
    obtain ⟨a, b, c⟩ := rowOf_at f hi
    exact ⟨cell_of_cells hg ((key _ (by omega)).trans a), cell_of_cells hg ((key _ (by omega)).trans b), cell_of_cells hg ((key _ (by omega)).trans c)⟩
/-- The pitches of a scale. -/
def scP (f : Int) (m : Bool) (i : Nat) : Trip := (Key.scS f m i, Key.scA f m i, Key.scO f m i)
/-- The key's and the pitch's variables, and the row that is made: between two rounds. -/
structure PC (W : World) (P : Nat) (x y z : Int) : Prop where
  c0 : W.cell? ⟨P, 0, none⟩ = some (.int .i64 x)
  c1 : W.cell? ⟨P, 1, none⟩ = some (.int .i64 y)
  c2 : W.cell? ⟨P, 2, none⟩ = some (.int .i64 z)
  f0 : W.frozen? ⟨P, 0, none⟩ = false
  f1 : W.frozen? ⟨P, 1, none⟩ = false
  f2 : W.frozen? ⟨P, 2, none⟩ = false
def ScRel (f : Int) (m : Bool) (w : World) (P : Nat) (l i : Value) (wr : World) : Prop :=
  ∃ (j : Nat) (a : Int), j ≤ 7 ∧ i = .int .i64 (j : Int) ∧ wr.ownsRow (P + 1) 42 3 l j (rowOf (Key.upto (scP f m) j)) ∧ (wr.cell? ⟨w.heap.size, 0, none⟩ = some (.int .i64 f) ∧ wr.cell? ⟨w.heap.size, 1, none⟩ = some (.bool m)) ∧ PC wr P (Key.scS f m j) a (Key.scO f m j) ∧ Below w.heap.size w wr
theorem own_drew {w : World} {base : Nat} {e : TypeId} {size : Nat} {v : Value} {n : Nat} {xs : List Value} (h : w.ownsRow base e size v n xs) : w.drew.ownsRow base e size v n xs := own_later h (Below.refl _ _).drew
theorem sc_next (f : Int) (m : Bool) (j : Nat) : (Key.scS f m j < 6 ∧ Key.scS f m (j + 1 : Nat) = Key.scS f m j + 1 ∧ Key.scO f m (j + 1 : Nat) = Key.scO f m j) ∨ (Key.scS f m j = 6 ∧ Key.scS f m (j + 1 : Nat) = 0 ∧ Key.scO f m (j + 1 : Nat) = Key.scO f m j + 1) := by
  unfold Key.scS Key.scO
  have := Key.st_bounds (Key.tp f m)
  generalize Key.st (Key.tp f m) = t at *
  have e : ((j + 1 : Nat) : Int) = (j : Int) + 1 := by omega
  rw [e]
  omega
theorem scS_bounds (f : Int) (m : Bool) (j : Int) : 0 ≤ Key.scS f m j ∧ Key.scS f m j ≤ 6 := by unfold Key.scS; omega
theorem scO_bounds (f : Int) (m : Bool) {j : Int} (h0 : 0 ≤ j) (h7 : j ≤ 7) : 4 ≤ Key.scO f m j ∧ Key.scO f m j ≤ 6 := by
  unfold Key.scO
  have := Key.st_bounds (Key.tp f m)
  omega
theorem cells3_new (w : World) (t : TypeId) (x y z : Value) {n : Nat} (hn : w.heap.size = n) : ∀ (jj : Nat) (u : Value), [x, y, z][jj]? = some u → (w.alloc (.cells #[x, y, z] t)).cell? (Addr.add ⟨n, 0, none⟩ jj) = some u := by
  subst hn
  intro jj u hu
  rcases jj with _ | _ | _ | jj
  · simp at hu; subst hu; simp [Addr.add]
  · simp at hu; subst hu; simp [Addr.add]
  · simp at hu; subst hu; simp [Addr.add]
  · simp at hu

set_option maxRecDepth 100000 in
set_option maxHeartbeats 4000000 in
theorem scale_yes (f : Int) (m : Bool) (w : World) (h0 : -7 ≤ f) (h7 : f ≤ 7) :
    Calls Tryd.prog 24 #[ky f m] w fun e w' => (∃ v, e = .returned (.tuple #[v, .int .i64 0]) ∧ Row w' v (scP f m) 7) ∧ Below w.heap.size w w' := by
  obtain ⟨i0, hi, hz0, hz1, hz2⟩ := info_parts infoP
  have hB0 : Below w.heap.size w w := Below.refl _ _
  go_enter Tryd.func24, Tryd.ntmps24
  go_wp2_with fail
  refine (kright_yes m _ h0 h7).mono ?_
  rintro e w1 ⟨rfl, hb1⟩
  have hs1 : Below w.heap.size w w1 := Below.trans (by repeat (first | exact Below.refl _ _ | refine Below.alloc ?_ (by simp <;> omega) _)) (hb1.mono (by simp <;> omega))
  have c_k_0 : w1.cell? ⟨w.heap.size, 0, none⟩ = some (.int .i64 f) := (hb1.cell (by simp <;> omega)).trans (by go_simp)
  have c_k_1 : w1.cell? ⟨w.heap.size, 1, none⟩ = some (.bool m) := (hb1.cell (by simp <;> omega)).trans (by go_simp)
  have z_k := World.block_lt_of_cell? _ _ c_k_0
  have hB1 := below_two hB0 hs1
  clear hB0 hs1 hb1
  go_wp2_with fail
  refine (tonic_any f m _ h0 h7).mono ?_
  rintro e w2 ⟨rfl, hb2⟩
  have hs2 := hb2
  replace c_k_0 := cell_later hs2 c_k_0
  replace c_k_1 := cell_later hs2 c_k_1
  clear z_k
  have z_k := World.block_lt_of_cell? _ _ c_k_0
  have hB2 := below_two hB1 hs2
  clear hB1 hs2
  go_wp2_with (at_make; refine wpList_make_own _ rfl _ _ 32 rfl (w2.heap.size + 1) 42 i0 (.agg #[.int .i64 0, .int .i64 0, .int .i64 0]) 3 Tryd.underlying32 hi hz0 hz1 .i64 .i64 7 7 rfl rfl rfl (by rw [hz2]; decide) (by unfold maxLen; decide) (by simp) ?_; intro w3 hown hgrow)
  have hb3 : Below (w2.heap.size + 1) (w2.alloc (.cells #[.int .i64 (Key.st (Key.tp f m)), .int .i64 (Key.al (Key.tp f m)), .int .i64 4] 42)) w3 := (Below.refl _ _).grown hgrow (by simp) (fun k e => by cases e)
  have hk0 : w3.cell? ⟨w.heap.size, 0, none⟩ = some (.int .i64 f) := (hb3.cell (p := ⟨w.heap.size, 0, none⟩) (by show w.heap.size < w2.heap.size + 1; omega)).trans (alloc_cell c_k_0)
  have hk1 : w3.cell? ⟨w.heap.size, 1, none⟩ = some (.bool m) := (hb3.cell (p := ⟨w.heap.size, 1, none⟩) (by show w.heap.size < w2.heap.size + 1; omega)).trans (alloc_cell c_k_1)
  have hpc : PC w3 w2.heap.size (Key.scS f m (0 : Nat)) (Key.al (Key.tp f m)) (Key.scO f m (0 : Nat)) := by
    have e1 : Key.scS f m (0 : Nat) = Key.st (Key.tp f m) := by unfold Key.scS; have := Key.st_bounds (Key.tp f m); omega
    have e2 : Key.scO f m (0 : Nat) = 4 := by unfold Key.scO; have := Key.st_bounds (Key.tp f m); omega
    rw [e1, e2]
    exact ⟨(hb3.cell (p := ⟨w2.heap.size, 0, none⟩) (by simp)).trans (by go_simp), (hb3.cell (p := ⟨w2.heap.size, 1, none⟩) (by simp)).trans (by go_simp), (hb3.cell (p := ⟨w2.heap.size, 2, none⟩) (by simp)).trans (by go_simp), (hb3.frozen (p := ⟨w2.heap.size, 0, none⟩) (by simp)).trans (by go_simp), (hb3.frozen (p := ⟨w2.heap.size, 1, none⟩) (by simp)).trans (by go_simp), (hb3.frozen (p := ⟨w2.heap.size, 2, none⟩) (by simp)).trans (by go_simp)⟩
  have hB3 : Below w.heap.size w w3 := (hB2.alloc hB2.size (.cells #[.int .i64 (Key.st (Key.tp f m)), .int .i64 (Key.al (Key.tp f m)), .int .i64 4] 42)).trans (hb3.mono (by omega))
  have hP : w.heap.size < w2.heap.size := z_k
  have hown' := hown
  rw [World.size_alloc] at hown'
  clear hown hb3 hgrow hB2 c_k_0 c_k_1 z_k
  generalize w2.heap.size = P at *
  go_loopw [5, 12] (fun l i wr => ScRel f m w P l i wr) (fun _ i _ => (7 - intOf i).toNat)
  case atStart => exact ⟨0, _, by omega, rfl, hown', ⟨hk0, hk1⟩, hpc, hB3⟩
  case round =>
    obtain ⟨j, a, hj, rfl, hown, ⟨hk0, hk1⟩, ⟨c0, c1, c2, f0, f1, f2⟩, hB⟩ := hrel
    by_cases hj7 : j < 7
    · have hsb := scS_bounds f m j
      have hob := scO_bounds f m (j := j) (by omega) (by omega)
      have HSG : Hid (scP f m j = (Key.scS f m j, Key.sg f (Key.scS f m j), Key.scO f m j)) := Lib.hid rfl
      have HNX := Lib.hid (sc_next f m j)
      have HJ := Lib.hid hj7
      generalize Key.scS f m (j : Int) = s at *
      generalize Key.scO f m (j : Int) = o at *
      go_wp2_with fail
      refine (signed_any f m s _ h0 h7).mono ?_
      rintro e w4 ⟨rfl, hb⟩
      replace hk0 := cell_later hb hk0
      replace hk1 := cell_later hb hk1
      replace f0 := frozen_later hb c0 f0
      replace f1 := frozen_later hb c1 f1
      replace f2 := frozen_later hb c2 f2
      replace c0 := cell_later hb c0
      replace c1 := cell_later hb c1
      replace c2 := cell_later hb c2
      replace hown := own_later hown hb
      replace hB := below_two hB hb
      clear hb
      generalize Key.sg f s = g at *
      have d0 : (w4.setCell ⟨P, 1, none⟩ (.int .i64 g)).cell? ⟨P, 0, none⟩ = some (.int .i64 s) := set_beside (by decide) c0
      have d1 : (w4.setCell ⟨P, 1, none⟩ (.int .i64 g)).cell? ⟨P, 1, none⟩ = some (.int .i64 g) := set_same (held_of c1)
      have d2 : (w4.setCell ⟨P, 1, none⟩ (.int .i64 g)).cell? ⟨P, 2, none⟩ = some (.int .i64 o) := set_beside (by decide) c2
      have dk0 : (w4.setCell ⟨P, 1, none⟩ (.int .i64 g)).cell? ⟨w.heap.size, 0, none⟩ = some (.int .i64 f) := set_far (by omega) hk0
      have dk1 : (w4.setCell ⟨P, 1, none⟩ (.int .i64 g)).cell? ⟨w.heap.size, 1, none⟩ = some (.bool m) := set_far (by omega) hk1
      have g0 : (w4.setCell ⟨P, 1, none⟩ (.int .i64 g)).frozen? ⟨P, 0, none⟩ = false := set_frozen f0
      have g1 : (w4.setCell ⟨P, 1, none⟩ (.int .i64 g)).frozen? ⟨P, 1, none⟩ = false := set_frozen f1
      have g2 : (w4.setCell ⟨P, 1, none⟩ (.int .i64 g)).frozen? ⟨P, 2, none⟩ = false := set_frozen f2
      have hown4 := own_set (o := 1) (x := .int .i64 g) hown (show P < P + 1 by omega)
      have hB4 : Below w.heap.size w (w4.setCell ⟨P, 1, none⟩ (.int .i64 g)) := set1_below hB (by omega)
      have hPl : P < w4.heap.size := World.block_lt_of_cell? _ _ c0
      have hs4 : (w4.setCell ⟨P, 1, none⟩ (.int .i64 g)).heap.size = w4.heap.size := by simp
      have HOW := Lib.hid hown4
      have HD := Lib.hid (And.intro d0 (And.intro d1 (And.intro d2 (And.intro g0 (And.intro g1 g2)))))
      have HDK := Lib.hid (And.intro dk0 dk1)
      have HB4 := Lib.hid hB4
      clear hown hown4 hB hB4 d0 d1 d2 g0 g1 g2 dk0 dk1
      go_wp2_with (first
        | (at_builtin; refine wpList_append_own _ rfl _ _ 32 rfl (P + 1) 42 i0 (.agg #[.int .i64 0, .int .i64 0, .int .i64 0]) 3 24 Tryd.underlying32 hi hz0 hz1 hz2 rfl (by decide) _ _ _ rfl (HOW.out.alloc _) ⟨w4.heap.size, 0, none⟩ 1 1 [.int .i64 s, .int .i64 g, .int .i64 o] rfl rfl ?c1 ?c2 ?c3 ?c4 ?c5 ?_)
        | fail)
      case c1 => exact cells3_new _ _ _ _ _ hs4
      case c2 => intro u hu; simp at hu; rcases hu with rfl | rfl | rfl <;> rfl
      case c3 => unfold maxLen; omega
      case c4 => omega
      case c5 => simp; omega
      · intro v' w5 hown5 hgrow _
        obtain ⟨d0, d1, d2, g0, g1, g2⟩ := HD.out
        obtain ⟨dk0, dk1⟩ := HDK.out
        have hb5 : Below (P + 1) ((w4.setCell ⟨P, 1, none⟩ (.int .i64 g)).alloc (.cells #[.int .i64 s, .int .i64 g, .int .i64 o] 42)) w5 := (Below.refl _ _).grown hgrow (by simp; omega) (fun k hk => (HOW.out.lt k hk).1)
        have f5a := (hb5.frozen (p := ⟨P, 0, none⟩) (by simp)).trans (alloc_frozen d0 g0)
        have f5b := (hb5.frozen (p := ⟨P, 1, none⟩) (by simp)).trans (alloc_frozen d1 g1)
        have f5c := (hb5.frozen (p := ⟨P, 2, none⟩) (by simp)).trans (alloc_frozen d2 g2)
        have c5a := (hb5.cell (p := ⟨P, 0, none⟩) (by simp)).trans (alloc_cell d0)
        have c5b := (hb5.cell (p := ⟨P, 1, none⟩) (by simp)).trans (alloc_cell d1)
        have c5c := (hb5.cell (p := ⟨P, 2, none⟩) (by simp)).trans (alloc_cell d2)
        have k5a := (hb5.cell (p := ⟨w.heap.size, 0, none⟩) (by show w.heap.size < P + 1; omega)).trans (alloc_cell dk0)
        have k5b := (hb5.cell (p := ⟨w.heap.size, 1, none⟩) (by show w.heap.size < P + 1; omega)).trans (alloc_cell dk1)
        have hB5 : Below w.heap.size w w5 := (alloc_below HB4.out).trans (hb5.mono (by omega))
        have HOWN : Hid (w5.ownsRow (P + 1) 42 3 v' (j + 1) (rowOf (Key.upto (scP f m) (j + 1)))) := Lib.hid (by rw [Key.upto_succ, rowOf_append, HSG.out]; exact hown5)
        have HK5 := Lib.hid (And.intro k5a k5b)
        have HB5 := Lib.hid hB5
        clear hb5 hown5 hgrow hB5 k5a k5b HOW HB4 HD HDK hown' c0 c1 c2 f0 f1 f2 d0 d1 d2 g0 g1 g2 dk0 dk1
        by_cases hs6 : s = 6
        · have HN : Hid (Key.scS f m (j + 1 : Nat) = 0 ∧ Key.scO f m (j + 1 : Nat) = o + 1) := Lib.hid (by rcases HNX.out with ⟨h1, h2, h3⟩ | ⟨h1, h2, h3⟩; omega; exact ⟨h2, h3⟩)
          subst hs6
          go_wp2_with fail
          (try go_region)
          all_goals go_wp2
          all_goals (refine ⟨⟨j + 1, g, by omega, by go_num, own_set (own_set (own_set HOWN.out (by omega)) (by omega)) (by omega), ⟨set_far (by omega) (set_far (by omega) (set_far (by omega) HK5.out.1)), set_far (by omega) (set_far (by omega) (set_far (by omega) HK5.out.2))⟩, ?_, set1_below (set1_below (set1_below HB5.out (by omega)) (by omega)) (by omega)⟩, by simp [intOf]; omega⟩)
          all_goals rw [HN.out.1, HN.out.2]
          all_goals exact ⟨set_beside (by decide) (set_same (set_held (held_of c5a))), set_beside (by decide) (set_beside (by decide) (set_beside (by decide) c5b)), set_same (set_held (set_held (held_of c5c))), set_frozen (set_frozen (set_frozen f5a)), set_frozen (set_frozen (set_frozen f5b)), set_frozen (set_frozen (set_frozen f5c))⟩
        · have HN : Hid (Key.scS f m (j + 1 : Nat) = s + 1 ∧ Key.scO f m (j + 1 : Nat) = o) := Lib.hid (by rcases HNX.out with ⟨h1, h2, h3⟩ | ⟨h1, h2, h3⟩; exact ⟨h2, h3⟩; omega)
          have hne : ¬ (s + 1 = 7) := by omega
          go_wp2
          refine ⟨⟨j + 1, g, by omega, by go_num, own_set HOWN.out (by omega), ⟨set_far (by omega) HK5.out.1, set_far (by omega) HK5.out.2⟩, ?_, set1_below HB5.out (by omega)⟩, by simp [intOf]; omega⟩
          rw [HN.out.1, HN.out.2]
          exact ⟨set_same (held_of c5a), set_beside (by decide) c5b, set_beside (by decide) c5c, set_frozen f5a, set_frozen f5b, set_frozen f5c⟩
    · obtain rfl : j = 7 := by omega
      have HOW := Lib.hid hown
      clear hown
      go_wp2
      go_ret2
      exact ⟨⟨_, rfl, row_of (by decide) HOW.out⟩, hB⟩

set_option maxRecDepth 100000 in
set_option maxHeartbeats 4000000 in
theorem scale_no (f : Int) (m : Bool) (w : World) (h : Key.okF f = false) :
    Calls Tryd.prog 24 #[ky f m] w fun e w' => e = .returned (.tuple #[.slice none 0 0, .int .i64 30]) ∧ Below w.heap.size w w' := by
  have hB0 : Below w.heap.size w w := Below.refl _ _
  go_enter Tryd.func24, Tryd.ntmps24
  go_wp2_with fail
  refine (kright_no m _ h).mono ?_
  rintro e w1 ⟨rfl, hb1⟩
  have hs1 : Below w.heap.size w w1 := Below.trans (by repeat (first | exact Below.refl _ _ | refine Below.alloc ?_ (by simp <;> omega) _)) (hb1.mono (by simp <;> omega))
  have c_k_0 : w1.cell? ⟨w.heap.size, 0, none⟩ = some (.int .i64 f) := (hb1.cell (by simp <;> omega)).trans (by go_simp)
  have c_k_1 : w1.cell? ⟨w.heap.size, 1, none⟩ = some (.bool m) := (hb1.cell (by simp <;> omega)).trans (by go_simp)
  have z_k := World.block_lt_of_cell? _ _ c_k_0
  have hB1 := below_two hB0 hs1
  clear hB0 hs1 hb1
  go_wp2
  go_ret2
  exact ⟨rfl, hB1⟩

/-- What Scale answers: a list of seven pitches, or none. -/
def ScV (f : Int) (m : Bool) (W : World) (v : Value) : Prop := if Key.okF f = true then Row W v (scP f m) 7 else v = .slice none 0 0
theorem ScV.later {f : Int} {m : Bool} {W W' : World} {v : Value} (h : ScV f m W v) (hb : Below W.heap.size W W') : ScV f m W' v := by
  unfold ScV at *
  split
  · rename_i hk
    rw [if_pos hk] at h
    exact h.later hb
  · rename_i hk
    rw [if_neg hk] at h
    exact h
theorem scale_any (f : Int) (m : Bool) (w : World) :
    Calls Tryd.prog 24 #[ky f m] w fun e w' => (∃ v, e = .returned (.tuple #[v, .int .i64 (Key.eK f)]) ∧ ScV f m w' v) ∧ Below w.heap.size w w' := by
  unfold Key.eK ScV
  cases hf : Key.okF f
  · exact (scale_no f m w hf).mono fun e w' ⟨he, hb⟩ => ⟨⟨_, he, rfl⟩, hb⟩
  · obtain ⟨h0, h7⟩ := (Key.okF_iff f).1 hf
    exact (scale_yes f m w h0 h7).mono fun e w' ⟨⟨v, he, hr⟩, hb⟩ => ⟨⟨v, he, hr⟩, hb⟩
end Go.Proofs.YtahcbgngdpjhkaaDoor
