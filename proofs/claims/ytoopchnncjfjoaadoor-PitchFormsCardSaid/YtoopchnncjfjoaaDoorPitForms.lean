/-
  PitchForms holds: the law's walk.
-/
import Derived.Test.YtoopchnncjfjoaaDoorPitI
import Derived.Test.YtoopchnncjfjoaaDoorPitRow
namespace Go.Proofs.YtoopchnncjfjoaaDoor
open Go.RowKit

theorem conv_byte (c : UInt8) (W : World) (k : Nat) (h : W.cell? ⟨k, 0, none⟩ = some (.int .u8 (c.toNat : Int))) : (convert 45 9 (.slice (some ⟨k, 0, none⟩) 1 1)).run Tryd.prog W = .ok (.string ⟨#[c]⟩) W :=
  run_convert_bytes_back W 45 9 5 ⟨k, 0, none⟩ 1 [c] Tryd.underlying45 Tryd.underlying5 Tryd.underlying9 (fun j hj => by
    match j, hj with
    | 0, _ => exact h)

def FormsRel (X0 X1 X2 : ByteArray) (B : Nat) (w : World) (i : Value) (wr : World) : Prop := ∃ j : Nat, j ≤ 3 ∧ i = .int .i64 j ∧ wr.cell? ⟨B, 0, none⟩ = some (.string X0) ∧ wr.cell? ⟨B, 1, none⟩ = some (.string X1) ∧ wr.cell? ⟨B, 2, none⟩ = some (.string X2) ∧ Below w.heap.size w wr

set_option maxRecDepth 100000 in
set_option maxHeartbeats 4000000 in
theorem forms_w (a1 a2 a3 at0 : Int) (x : ByteArray) (c : UInt8) (s b o : Int) (w : World) (hR : Ready w) (HA : Hid (∀ w, Calls Tryd.prog 13 #[pt a1 a2 a3] w fun e w' => e = .returned (pt s b o) ∧ Below w.heap.size w w')) (hat : Pit.I64 at0) (T P Q R S : List UInt8) (HT : Hid (txtV (Pit.right s b o) s b o = T ∧ errP (Pit.right s b o) = 0)) (l2 : 2 ≤ T.length) (l5 : T.length ≤ 5) (n h g : Nat) (HK : Hid (pickS at0 (T.length + 1) = (n : Int))) (hn : n ≤ T.length) (F : ByteArray) (m : Int) (hm : min (x.size : Int) 20 = m) (m0 : 0 ≤ m) (m1 : m ≤ (x.size : Int)) (hF : x.extract 0 m.toNat = F) (hP : (⟨T.toArray⟩ : ByteArray).extract 0 n = ⟨P.toArray⟩) (hQ : (⟨T.toArray⟩ : ByteArray).extract n T.length = ⟨Q.toArray⟩) (hRr : (⟨T.toArray⟩ : ByteArray).extract 0 h = ⟨R.toArray⟩) (hS : (⟨T.toArray⟩ : ByteArray).extract g T.length = ⟨S.toArray⟩) (lP : P.length ≤ 5) (lQ : Q.length ≤ 5) (lR : R.length ≤ 5) (lS : S.length ≤ 5) (hh : ((n : Int)).tdiv 2 = (h : Int)) (hh' : ((n : Int)) / 2 = (h : Int)) (hw : IntKind.i64.wrap (h : Int) = (h : Int)) (hg' : (h : Int) + 1 = (g : Int)) (hgT : g ≤ T.length) (hFs : F.size ≤ 1000) :
    Calls Tryd.prog 5 #[.string x, pt a1 a2 a3, .int .i64 at0, .int .u8 (c.toNat : Int)] w fun e w' => e = .returned (.bool true) ∧ Below w.heap.size w w' := by
  have hgP := guardP
  have hgI := guardI
  have heP := eql_pt
  have heI := eql_iv
  have hnP := neq_pt
  have hsP := eqP_self
  have hsI := eqI_self
  have a1' : ∀ w : World, (Op.stringOp .add ⟨P.toArray⟩ ⟨#[c]⟩).run Tryd.prog w = .ok (.string ⟨(P ++ [c]).toArray⟩) w := fun w => run_string_add_lists w P [c] (by omega) (by simp)
  have a2' : ∀ w : World, (Op.stringOp .add ⟨(P ++ [c]).toArray⟩ ⟨Q.toArray⟩).run Tryd.prog w = .ok (.string ⟨(P ++ [c] ++ Q).toArray⟩) w := fun w => run_string_add_lists w (P ++ [c]) Q (by simp; omega) (by omega)
  have a3' : ∀ w : World, (Op.stringOp .add ⟨R.toArray⟩ ⟨S.toArray⟩).run Tryd.prog w = .ok (.string ⟨(R ++ S).toArray⟩) w := fun w => run_string_add_lists w R S (by omega) (by omega)
  have a4' := conv_byte c
  have hne : (T == ([] : List UInt8)) = false := by cases T with | nil => simp at l2 | cons _ _ => rfl
  have hsz : (⟨T.toArray⟩ : ByteArray).size = T.length := sz T
  have hB0 : Below w.heap.size w w := Below.refl _ _
  go_enter Tryd.func5, Tryd.ntmps5
  go_wp2_with fail
  have hR' := hR.below (hB0.alloc hB0.size (.cells #[.int .i64 a1, .int .i64 a2, .int .i64 a3] 23))
  refine (awake_any _ hR').mono ?_
  rintro e w1 ⟨rfl, hb1⟩
  clear hR'
  have hs1 : Below w.heap.size w w1 := Below.trans (by repeat (first | exact Below.refl _ _ | refine Below.alloc ?_ (by simp <;> omega) _)) (hb1.mono (by simp <;> omega))
  have c_a_0 : w1.cell? ⟨w.heap.size, 0, none⟩ = some (.int .i64 a1) := (hb1.cell (by simp <;> omega)).trans (by go_simp)
  have c_a_1 : w1.cell? ⟨w.heap.size, 1, none⟩ = some (.int .i64 a2) := (hb1.cell (by simp <;> omega)).trans (by go_simp)
  have c_a_2 : w1.cell? ⟨w.heap.size, 2, none⟩ = some (.int .i64 a3) := (hb1.cell (by simp <;> omega)).trans (by go_simp)
  have z_a := World.block_lt_of_cell? _ _ c_a_0
  have hB1 := below_two hB0 hs1
  clear hB0 hs1 hb1
  go_wp2_with fail
  have hR' := hR.below hB1
  refine (HA.out _).mono ?_
  rintro e w2 ⟨rfl, hb2⟩
  clear hR'
  have hs2 := hb2
  clear c_a_0
  clear c_a_1
  clear c_a_2
  clear z_a
  have hB2 := below_two hB1 hs2
  clear hB1 hs2
  go_wp2_with fail
  have hR' := hR.below hB2
  refine (text_any _ _ _ _ hR').mono ?_
  rintro e w3 ⟨rfl, hb3⟩
  clear hR'
  have hs3 := hb3
  have hB3 := below_two hB2 hs3
  clear hB2 hs3
  rw [HT.out.1, HT.out.2]
  go_wp2_with fail
  refine (pick_any _ _ _ hat (by omega) (by omega)).mono ?_
  rintro e wx ⟨rfl, rfl⟩
  rw [HK.out]
  have hi0 : (0 : Int) ≤ (n : Int) := by omega
  have hi1 : (n : Int) ≤ (T.length : Int) := by omega
  have hi2 : (0 : Int) ≤ (h : Int) := by omega
  have hi3 : (h : Int) ≤ (T.length : Int) := by omega
  have hi4 : (0 : Int) ≤ (g : Int) := by omega
  have hi5 : (g : Int) ≤ (T.length : Int) := by omega
  go_wp2_with fail
  go_region
  have x0 : ((w3.alloc (.cells #[.int .u8 (c.toNat : Int)] 5)).alloc (.cells #[.string F, .string ⟨(P ++ c :: Q).toArray⟩, .string ⟨(R ++ S).toArray⟩] 9)).drew.cell? ⟨w3.heap.size + 1, 0, none⟩ = some (.string F) := by go_simp
  have x1 : ((w3.alloc (.cells #[.int .u8 (c.toNat : Int)] 5)).alloc (.cells #[.string F, .string ⟨(P ++ c :: Q).toArray⟩, .string ⟨(R ++ S).toArray⟩] 9)).drew.cell? ⟨w3.heap.size + 1, 1, none⟩ = some (.string ⟨(P ++ c :: Q).toArray⟩) := by go_simp
  have x2 : ((w3.alloc (.cells #[.int .u8 (c.toNat : Int)] 5)).alloc (.cells #[.string F, .string ⟨(P ++ c :: Q).toArray⟩, .string ⟨(R ++ S).toArray⟩] 9)).drew.cell? ⟨w3.heap.size + 1, 2, none⟩ = some (.string ⟨(R ++ S).toArray⟩) := by go_simp
  have hB4 : Below w.heap.size w ((w3.alloc (.cells #[.int .u8 (c.toNat : Int)] 5)).alloc (.cells #[.string F, .string ⟨(P ++ c :: Q).toArray⟩, .string ⟨(R ++ S).toArray⟩] 9)).drew := (alloc_below (alloc_below hB3)).drew
  have hX1 : (⟨(P ++ c :: Q).toArray⟩ : ByteArray).size ≤ 1000 := by rw [sz]; simp; omega
  have hX2 : (⟨(R ++ S).toArray⟩ : ByteArray).size ≤ 1000 := by rw [sz]; simp; omega
  go_wp2_with fail
  generalize ((w3.alloc (.cells #[.int .u8 (c.toNat : Int)] 5)).alloc (.cells #[.string F, .string ⟨(P ++ c :: Q).toArray⟩, .string ⟨(R ++ S).toArray⟩] 9)).drew = w4 at *
  generalize (⟨(P ++ c :: Q).toArray⟩ : ByteArray) = X1 at *
  generalize (⟨(R ++ S).toArray⟩ : ByteArray) = X2 at *
  generalize w3.heap.size + 1 = B at *
  clear hP hQ hRr hS lP lQ lR lS hh hh' hw hg' hgT hi0 hi1 hi2 hi3 hi4 hi5 a1' a2' a3' a4' hm m0 m1 hF hB3
  go_loopw [65] (fun i wr => FormsRel F X1 X2 B w i wr) (fun i _ => 3 - (intOf i).toNat)
  case atStart => exact ⟨0, by omega, rfl, x0, x1, x2, hB4⟩
  case round =>
    clear x0 x1 x2 hB4
    obtain ⟨j, hj, rfl, x0, x1, x2, hB⟩ := hrel
    obtain rfl | rfl | rfl | rfl : j = 0 ∨ j = 1 ∨ j = 2 ∨ j = 3 := by omega
    · have hz := World.block_lt_of_cell? _ _ x0
      have hRr := hR.below hB
      cases hrd : Pit.rd F.data.toList with
      | none =>
        have HR1 := Lib.hid hrd
        clear hrd
        go_wp2_with fail
        refine (read_any _ _ hRr hFs).mono ?_
        rintro e w5 ⟨rfl, hb⟩
        rw [HR1.out]
        simp only [rdV]
        have hB5 := alloc_below (o := .cells #[.int .i64 0, .int .i64 0, .int .i64 0] 23) (below_two hB hb)
        have y0 := alloc_cell (o := .cells #[.int .i64 0, .int .i64 0, .int .i64 0] 23) (cell_later hb x0)
        have y1 := alloc_cell (o := .cells #[.int .i64 0, .int .i64 0, .int .i64 0] 23) (cell_later hb x1)
        have y2 := alloc_cell (o := .cells #[.int .i64 0, .int .i64 0, .int .i64 0] 23) (cell_later hb x2)
        have HE := Lib.hid (And.intro y0 (And.intro y1 (And.intro y2 hB5)))
        clear y0 y1 y2 hB5 hb hB x0 x1 x2 hRr
        go_wp2
        exact ⟨⟨1, by omega, rfl, HE.out.1, HE.out.2.1, HE.out.2.2.1, HE.out.2.2.2⟩, by simp [intOf]⟩
      | some q =>
        obtain ⟨s', b', o'⟩ := q
        obtain ⟨hr1, ht1⟩ := Pit.rd_sound hrd
        have HR1 := Lib.hid hrd
        have HR2 := Lib.hid hr1
        have HU : Hid ((⟨(txtV (Pit.right s' b' o') s' b' o').toArray⟩ : ByteArray) = F) := Lib.hid (by rw [hr1]; show (⟨(Pit.txt s' b' o').toArray⟩ : ByteArray) = F; rw [ht1])
        clear hrd hr1 ht1
        go_wp2_with fail
        refine (read_any _ _ hRr hFs).mono ?_
        rintro e w5 ⟨rfl, hb⟩
        rw [HR1.out]
        simp only [rdV]
        have hB5 := below_two hB hb
        replace x0 := cell_later hb x0
        replace x1 := cell_later hb x1
        replace x2 := cell_later hb x2
        clear hb hB hRr hz
        go_wp2_with fail
        have hs6 := alloc_below (o := .cells #[.int .i64 s', .int .i64 b', .int .i64 o'] 23) (Below.refl w5.heap.size w5)
        have p0 : (w5.alloc (.cells #[.int .i64 s', .int .i64 b', .int .i64 o'] 23)).cell? ⟨w5.heap.size, 0, none⟩ = some (.int .i64 s') := by go_simp
        have p1 : (w5.alloc (.cells #[.int .i64 s', .int .i64 b', .int .i64 o'] 23)).cell? ⟨w5.heap.size, 1, none⟩ = some (.int .i64 b') := by go_simp
        have p2 : (w5.alloc (.cells #[.int .i64 s', .int .i64 b', .int .i64 o'] 23)).cell? ⟨w5.heap.size, 2, none⟩ = some (.int .i64 o') := by go_simp
        have hB6 := below_two hB5 hs6
        replace x0 := cell_later hs6 x0
        replace x1 := cell_later hs6 x1
        replace x2 := cell_later hs6 x2
        clear hB5 hs6
        generalize w5.alloc (.cells #[.int .i64 s', .int .i64 b', .int .i64 o'] 23) = w6 at *
        refine (text_any _ _ _ _ (hR.below hB6)).mono ?_
        rintro e w7 ⟨rfl, hb⟩
        rw [HU.out, HR2.out]
        simp only [errP, if_true]
        have hB7 := below_two hB6 hb
        replace x0 := cell_later hb x0
        replace x1 := cell_later hb x1
        replace x2 := cell_later hb x2
        replace p0 := cell_later hb p0
        replace p1 := cell_later hb p1
        replace p2 := cell_later hb p2
        clear hb hB6
        go_wp2_with fail
        refine (right_any _ _ _ _ (hR.below hB7)).mono ?_
        rintro e w8 ⟨rfl, hb⟩
        rw [HR2.out]
        have hB8 := below_two hB7 hb
        replace x0 := cell_later hb x0
        replace x1 := cell_later hb x1
        replace x2 := cell_later hb x2
        clear hb hB7 p0 p1 p2
        have HE := Lib.hid (And.intro x0 (And.intro x1 (And.intro x2 hB8)))
        cases hxt : (F.toList == T) with
        | true =>
          go_wp2
          go_ret
          exact ⟨rfl, HE.out.2.2.2⟩
        | false =>
          clear x0 x1 x2 hB8
          go_wp2
          exact ⟨⟨1, by omega, rfl, HE.out.1, HE.out.2.1, HE.out.2.2.1, HE.out.2.2.2⟩, by simp [intOf]⟩
    · have hz := World.block_lt_of_cell? _ _ x0
      have hRr := hR.below hB
      cases hrd : Pit.rd X1.data.toList with
      | none =>
        have HR1 := Lib.hid hrd
        clear hrd
        go_wp2_with fail
        refine (read_any _ _ hRr hX1).mono ?_
        rintro e w5 ⟨rfl, hb⟩
        rw [HR1.out]
        simp only [rdV]
        have hB5 := alloc_below (o := .cells #[.int .i64 0, .int .i64 0, .int .i64 0] 23) (below_two hB hb)
        have y0 := alloc_cell (o := .cells #[.int .i64 0, .int .i64 0, .int .i64 0] 23) (cell_later hb x0)
        have y1 := alloc_cell (o := .cells #[.int .i64 0, .int .i64 0, .int .i64 0] 23) (cell_later hb x1)
        have y2 := alloc_cell (o := .cells #[.int .i64 0, .int .i64 0, .int .i64 0] 23) (cell_later hb x2)
        have HE := Lib.hid (And.intro y0 (And.intro y1 (And.intro y2 hB5)))
        clear y0 y1 y2 hB5 hb hB x0 x1 x2 hRr
        go_wp2
        exact ⟨⟨2, by omega, rfl, HE.out.1, HE.out.2.1, HE.out.2.2.1, HE.out.2.2.2⟩, by simp [intOf]⟩
      | some q =>
        obtain ⟨s', b', o'⟩ := q
        obtain ⟨hr1, ht1⟩ := Pit.rd_sound hrd
        have HR1 := Lib.hid hrd
        have HR2 := Lib.hid hr1
        have HU : Hid ((⟨(txtV (Pit.right s' b' o') s' b' o').toArray⟩ : ByteArray) = X1) := Lib.hid (by rw [hr1]; show (⟨(Pit.txt s' b' o').toArray⟩ : ByteArray) = X1; rw [ht1])
        clear hrd hr1 ht1
        go_wp2_with fail
        refine (read_any _ _ hRr hX1).mono ?_
        rintro e w5 ⟨rfl, hb⟩
        rw [HR1.out]
        simp only [rdV]
        have hB5 := below_two hB hb
        replace x0 := cell_later hb x0
        replace x1 := cell_later hb x1
        replace x2 := cell_later hb x2
        clear hb hB hRr hz
        go_wp2_with fail
        have hs6 := alloc_below (o := .cells #[.int .i64 s', .int .i64 b', .int .i64 o'] 23) (Below.refl w5.heap.size w5)
        have p0 : (w5.alloc (.cells #[.int .i64 s', .int .i64 b', .int .i64 o'] 23)).cell? ⟨w5.heap.size, 0, none⟩ = some (.int .i64 s') := by go_simp
        have p1 : (w5.alloc (.cells #[.int .i64 s', .int .i64 b', .int .i64 o'] 23)).cell? ⟨w5.heap.size, 1, none⟩ = some (.int .i64 b') := by go_simp
        have p2 : (w5.alloc (.cells #[.int .i64 s', .int .i64 b', .int .i64 o'] 23)).cell? ⟨w5.heap.size, 2, none⟩ = some (.int .i64 o') := by go_simp
        have hB6 := below_two hB5 hs6
        replace x0 := cell_later hs6 x0
        replace x1 := cell_later hs6 x1
        replace x2 := cell_later hs6 x2
        clear hB5 hs6
        generalize w5.alloc (.cells #[.int .i64 s', .int .i64 b', .int .i64 o'] 23) = w6 at *
        refine (text_any _ _ _ _ (hR.below hB6)).mono ?_
        rintro e w7 ⟨rfl, hb⟩
        rw [HU.out, HR2.out]
        simp only [errP, if_true]
        have hB7 := below_two hB6 hb
        replace x0 := cell_later hb x0
        replace x1 := cell_later hb x1
        replace x2 := cell_later hb x2
        replace p0 := cell_later hb p0
        replace p1 := cell_later hb p1
        replace p2 := cell_later hb p2
        clear hb hB6
        go_wp2_with fail
        refine (right_any _ _ _ _ (hR.below hB7)).mono ?_
        rintro e w8 ⟨rfl, hb⟩
        rw [HR2.out]
        have hB8 := below_two hB7 hb
        replace x0 := cell_later hb x0
        replace x1 := cell_later hb x1
        replace x2 := cell_later hb x2
        clear hb hB7 p0 p1 p2
        have HE := Lib.hid (And.intro x0 (And.intro x1 (And.intro x2 hB8)))
        cases hxt : (X1.toList == T) with
        | true =>
          go_wp2
          go_ret
          exact ⟨rfl, HE.out.2.2.2⟩
        | false =>
          clear x0 x1 x2 hB8
          go_wp2
          exact ⟨⟨2, by omega, rfl, HE.out.1, HE.out.2.1, HE.out.2.2.1, HE.out.2.2.2⟩, by simp [intOf]⟩
    · have hz := World.block_lt_of_cell? _ _ x0
      have hRr := hR.below hB
      cases hrd : Pit.rd X2.data.toList with
      | none =>
        have HR1 := Lib.hid hrd
        clear hrd
        go_wp2_with fail
        refine (read_any _ _ hRr hX2).mono ?_
        rintro e w5 ⟨rfl, hb⟩
        rw [HR1.out]
        simp only [rdV]
        have hB5 := alloc_below (o := .cells #[.int .i64 0, .int .i64 0, .int .i64 0] 23) (below_two hB hb)
        have y0 := alloc_cell (o := .cells #[.int .i64 0, .int .i64 0, .int .i64 0] 23) (cell_later hb x0)
        have y1 := alloc_cell (o := .cells #[.int .i64 0, .int .i64 0, .int .i64 0] 23) (cell_later hb x1)
        have y2 := alloc_cell (o := .cells #[.int .i64 0, .int .i64 0, .int .i64 0] 23) (cell_later hb x2)
        have HE := Lib.hid (And.intro y0 (And.intro y1 (And.intro y2 hB5)))
        clear y0 y1 y2 hB5 hb hB x0 x1 x2 hRr
        go_wp2
        exact ⟨⟨3, by omega, rfl, HE.out.1, HE.out.2.1, HE.out.2.2.1, HE.out.2.2.2⟩, by simp [intOf]⟩
      | some q =>
        obtain ⟨s', b', o'⟩ := q
        obtain ⟨hr1, ht1⟩ := Pit.rd_sound hrd
        have HR1 := Lib.hid hrd
        have HR2 := Lib.hid hr1
        have HU : Hid ((⟨(txtV (Pit.right s' b' o') s' b' o').toArray⟩ : ByteArray) = X2) := Lib.hid (by rw [hr1]; show (⟨(Pit.txt s' b' o').toArray⟩ : ByteArray) = X2; rw [ht1])
        clear hrd hr1 ht1
        go_wp2_with fail
        refine (read_any _ _ hRr hX2).mono ?_
        rintro e w5 ⟨rfl, hb⟩
        rw [HR1.out]
        simp only [rdV]
        have hB5 := below_two hB hb
        replace x0 := cell_later hb x0
        replace x1 := cell_later hb x1
        replace x2 := cell_later hb x2
        clear hb hB hRr hz
        go_wp2_with fail
        have hs6 := alloc_below (o := .cells #[.int .i64 s', .int .i64 b', .int .i64 o'] 23) (Below.refl w5.heap.size w5)
        have p0 : (w5.alloc (.cells #[.int .i64 s', .int .i64 b', .int .i64 o'] 23)).cell? ⟨w5.heap.size, 0, none⟩ = some (.int .i64 s') := by go_simp
        have p1 : (w5.alloc (.cells #[.int .i64 s', .int .i64 b', .int .i64 o'] 23)).cell? ⟨w5.heap.size, 1, none⟩ = some (.int .i64 b') := by go_simp
        have p2 : (w5.alloc (.cells #[.int .i64 s', .int .i64 b', .int .i64 o'] 23)).cell? ⟨w5.heap.size, 2, none⟩ = some (.int .i64 o') := by go_simp
        have hB6 := below_two hB5 hs6
        replace x0 := cell_later hs6 x0
        replace x1 := cell_later hs6 x1
        replace x2 := cell_later hs6 x2
        clear hB5 hs6
        generalize w5.alloc (.cells #[.int .i64 s', .int .i64 b', .int .i64 o'] 23) = w6 at *
        refine (text_any _ _ _ _ (hR.below hB6)).mono ?_
        rintro e w7 ⟨rfl, hb⟩
        rw [HU.out, HR2.out]
        simp only [errP, if_true]
        have hB7 := below_two hB6 hb
        replace x0 := cell_later hb x0
        replace x1 := cell_later hb x1
        replace x2 := cell_later hb x2
        replace p0 := cell_later hb p0
        replace p1 := cell_later hb p1
        replace p2 := cell_later hb p2
        clear hb hB6
        go_wp2_with fail
        refine (right_any _ _ _ _ (hR.below hB7)).mono ?_
        rintro e w8 ⟨rfl, hb⟩
        rw [HR2.out]
        have hB8 := below_two hB7 hb
        replace x0 := cell_later hb x0
        replace x1 := cell_later hb x1
        replace x2 := cell_later hb x2
        clear hb hB7 p0 p1 p2
        have HE := Lib.hid (And.intro x0 (And.intro x1 (And.intro x2 hB8)))
        cases hxt : (X2.toList == T) with
        | true =>
          go_wp2
          go_ret
          exact ⟨rfl, HE.out.2.2.2⟩
        | false =>
          clear x0 x1 x2 hB8
          go_wp2
          exact ⟨⟨3, by omega, rfl, HE.out.1, HE.out.2.1, HE.out.2.2.1, HE.out.2.2.2⟩, by simp [intOf]⟩
    · go_wp2
      go_ret
      exact ⟨rfl, hB⟩

theorem txt_extract (T : List UInt8) (a b : Nat) : (⟨T.toArray⟩ : ByteArray).extract a b = ⟨((T.drop a).take (b - a)).toArray⟩ := by
  apply ByteArray.ext
  rw [ByteArray.data_extract]
  apply Array.ext'
  rw [Array.toList_extract, List.extract_eq_take_drop]
theorem pitchForms_calls (x : ByteArray) (a1 a2 a3 at0 k : Int) (_hx : x.size ≤ maxLen) (h1 : Pit.I64 a1) (h2 : Pit.I64 a2) (h3 : Pit.I64 a3) (hat : Pit.I64 at0) (hk : 0 ≤ k ∧ k ≤ 255) (w : World) (hR : Ready w) : LawHolds 5 #[.string x, pt a1 a2 a3, .int .i64 at0, .int .u8 k] w := by
  obtain ⟨s, b, o, hr, hA⟩ := pitch_fix a1 a2 a3 h1 h2 h3
  obtain ⟨c, rfl⟩ : ∃ c : UInt8, k = (c.toNat : Int) := ⟨UInt8.ofNat k.toNat, by rw [UInt8.toNat_ofNat']; omega⟩
  have hT : txtV (Pit.right s b o) s b o = Pit.txt s b o ∧ errP (Pit.right s b o) = 0 := by rw [Pit.right_true hr]; exact ⟨rfl, rfl⟩
  obtain ⟨l2, l5⟩ := Pit.txt_len hr
  generalize Pit.txt s b o = T at *
  obtain ⟨n0, n1⟩ := pickS_bounds at0 (n := T.length + 1) (by omega)
  obtain ⟨n, hn⟩ : ∃ n : Nat, pickS at0 (T.length + 1) = (n : Int) := ⟨(pickS at0 (T.length + 1)).toNat, by omega⟩
  rw [hn] at n0 n1
  exact forms_w a1 a2 a3 at0 x c s b o w hR (Lib.hid hA) hat T _ _ _ _ (Lib.hid hT) l2 l5 n (n / 2) (n / 2 + 1) (Lib.hid hn) (by omega) _ _ rfl (by omega) (by omega) rfl
    (txt_extract T 0 n) (txt_extract T n T.length) (txt_extract T 0 (n / 2)) (txt_extract T (n / 2 + 1) T.length)
    (by simp; omega) (by simp; omega) (by simp; omega) (by simp; omega)
    (by rw [Int.tdiv_eq_ediv_of_nonneg (by omega)]; omega) (by omega) (IntWalk.i64_in _ (by omega)) (by omega) (by omega)
    (by rw [ByteArray.size_extract]; omega)
end Go.Proofs.YtoopchnncjfjoaaDoor
