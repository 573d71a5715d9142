/-
  The contract of pitch.Text.
-/
import Derived.Test.YtoopchnncjfjoaaDoorPitB
import Derived.Test.YtoopchnncjfjoaaDoorShelf
namespace Go.Proofs.YtoopchnncjfjoaaDoor
open Go.RowKit

theorem itoa_call (n : Int) (w : World) (hn : Pit.I64 n) (hR : Ready w) :
    Calls Tryd.prog 34 #[.int .i64 n] w fun e w' => e = .returned (.string ⟨(Lib.itoa n).toArray⟩) ∧ Below w.heap.size w w' :=
  (Tryd.strconv_Itoa n hn.1 hn.2 w hR.tab).mono fun _ _ ⟨he, k, os, hw⟩ => ⟨he, by rw [hw]; exact Lib.below_grow _ _ (Nat.le_refl _) _ _⟩

set_option maxRecDepth 100000 in
set_option maxHeartbeats 4000000 in
theorem text_no (s a o : Int) (w : World) (hR : Ready w) (h : Pit.right s a o = false) :
    Calls Tryd.prog 18 #[pt s a o] w fun e w' => e = .returned (.tuple #[.string ⟨#[]⟩, .int .i64 20]) ∧ Below w.heap.size w w' := by
  have hB0 : Below w.heap.size w w := Below.refl _ _
  go_enter Tryd.func18, Tryd.ntmps18
  go_wp2_with fail
  have hR' := hR.below (hB0.alloc hB0.size (.cells #[.int .i64 s, .int .i64 a, .int .i64 o] 23))
  refine (right_no h _ hR').mono ?_
  rintro e w1 ⟨rfl, hb1⟩
  clear hR'
  have hs1 : Below w.heap.size w w1 := Below.trans (by repeat (first | exact Below.refl _ _ | refine Below.alloc ?_ (by simp <;> omega) _)) (hb1.mono (by simp <;> omega))
  have hB1 := below_two hB0 hs1
  clear hB0 hs1 hb1
  go_wp2
  go_ret2
  exact ⟨rfl, hB1⟩

theorem letter_at {s : Int} (h0 : 0 ≤ s) (h6 : s ≤ 6) : (ByteArray.mk #[67, 68, 69, 70, 71, 65, 66]).extract s.toNat (s + 1).toNat = ⟨[Pit.leB s].toArray⟩ := by
  have key : ∀ k : Fin 7, ((ByteArray.mk #[67, 68, 69, 70, 71, 65, 66]).extract k.val (k.val + 1)).data.toList = [Pit.leB (k.val : Int)] := by decide +kernel
  have := key ⟨s.toNat, by omega⟩
  rw [show (s + 1).toNat = s.toNat + 1 by omega]
  simp only at this
  rw [show ((s.toNat : Nat) : Int) = s by omega] at this
  apply ByteArray.ext
  apply Array.ext'
  exact this
theorem sg_len (a : Int) : (Pit.sgB a).length ≤ 2 := by unfold Pit.sgB; (repeat' split) <;> simp

set_option maxRecDepth 100000 in
set_option maxHeartbeats 4000000 in
theorem text_raw (s a o : Int) (w : World) (hR : Ready w) (h : Pit.IsRight s a o) (l : UInt8) (g t : List UInt8) (ho : Pit.I64 o) (s1 a2 : Int) (hs1 : IntKind.i64.wrap (s + 1) = s1) (ha2 : IntKind.i64.wrap (a + 2) = a2) (b0 : 0 ≤ s) (b1 : s ≤ s1) (b2 : s1 ≤ 7) (i0 : 0 ≤ a2) (i1 : a2 < 5) (hex : (ByteArray.mk #[67, 68, 69, 70, 71, 65, 66]).extract s.toNat s1.toNat = ⟨[l].toArray⟩) (hg : g.length ≤ 2) (ht : t.length ≤ 30) (HT : Hid (Lib.itoa o = t)) (hc : w.cell? ⟨0, a2.toNat, none⟩ = some (.string ⟨g.toArray⟩)) :
    Calls Tryd.prog 18 #[pt s a o] w fun e w' => e = .returned (.tuple #[.string ⟨(l :: (g ++ t)).toArray⟩, .int .i64 0]) ∧ Below w.heap.size w w' := by
  have a1 : ∀ w : World, (Op.stringOp .add ⟨[l].toArray⟩ ⟨g.toArray⟩).run Tryd.prog w = .ok (.string ⟨(l :: g).toArray⟩) w := fun w => run_string_add_lists w [l] g (by simp) (by omega)
  have a1' : ∀ w : World, (Op.stringOp .add ⟨#[l]⟩ ⟨g.toArray⟩).run Tryd.prog w = .ok (.string ⟨(l :: g).toArray⟩) w := a1
  have a3 : ∀ w : World, (Op.stringOp .add ⟨(l :: g).toArray⟩ ⟨t.toArray⟩).run Tryd.prog w = .ok (.string ⟨(l :: (g ++ t)).toArray⟩) w := fun w => run_string_add_lists w (l :: g) t (by simp; omega) (by omega)
  have hB0 : Below w.heap.size w w := Below.refl _ _
  go_enter Tryd.func18, Tryd.ntmps18
  go_wp2_with fail
  have hR' := hR.below (hB0.alloc hB0.size (.cells #[.int .i64 s, .int .i64 a, .int .i64 o] 23))
  refine (right_yes h _ hR').mono ?_
  rintro e w1 ⟨rfl, hb1⟩
  clear hR'
  have hs1 : Below w.heap.size w w1 := Below.trans (by repeat (first | exact Below.refl _ _ | refine Below.alloc ?_ (by simp <;> omega) _)) (hb1.mono (by simp <;> omega))
  have c_p_0 : w1.cell? ⟨w.heap.size, 0, none⟩ = some (.int .i64 s) := (hb1.cell (by simp <;> omega)).trans (by go_simp)
  have c_p_1 : w1.cell? ⟨w.heap.size, 1, none⟩ = some (.int .i64 a) := (hb1.cell (by simp <;> omega)).trans (by go_simp)
  have c_p_2 : w1.cell? ⟨w.heap.size, 2, none⟩ = some (.int .i64 o) := (hb1.cell (by simp <;> omega)).trans (by go_simp)
  have z_p := World.block_lt_of_cell? _ _ c_p_0
  have hB1 := below_two hB0 hs1
  clear hB0 hs1 hb1
  have c_g_0 := cell_later hB1 hc
  go_wp2_with fail
  go_region_held3 (fun w' => w'.cell? ⟨w.heap.size, 0, none⟩ = some (.int .i64 s) ∧ w'.cell? ⟨w.heap.size, 1, none⟩ = some (.int .i64 a) ∧ w'.cell? ⟨w.heap.size, 2, none⟩ = some (.int .i64 o) ∧ w'.cell? ⟨0, a2.toNat, none⟩ = some (.string ⟨g.toArray⟩) ∧ Below w.heap.size w w')
    (((try go_split_ands); refine ⟨?_, ?_, ?_, ?_, ?_⟩ <;> first | assumption | (refine cell_later hq ?_; assumption) | (refine below_two ?_ hq; assumption) | exact c_p_0 | exact c_p_1 | exact c_p_2 | exact c_g_0 | exact hB1.drew))
    (first
      | (go_at_call 34; (try go_split_ands); refine (itoa_call _ _ ho (hR.below ?_)).mono ?_; assumption; rintro e w2 ⟨rfl, hq⟩; rw [HT.out]))
  rename_i hS
  clear c_p_0 c_p_1 c_p_2 c_g_0 hB1 z_p
  obtain ⟨c_p_0, c_p_1, c_p_2, c_g_0, hB2⟩ := hS
  have z_g := World.block_lt_of_cell? _ _ c_g_0
  have z_p := World.block_lt_of_cell? _ _ c_p_0
  go_wp2
  go_ret2
  exact ⟨rfl, hB2⟩

theorem text_yes (s a o : Int) (w : World) (hR : Ready w) (h : Pit.IsRight s a o) :
    Calls Tryd.prog 18 #[pt s a o] w fun e w' => e = .returned (.tuple #[.string ⟨(Pit.txt s a o).toArray⟩, .int .i64 0]) ∧ Below w.heap.size w w' := by
  obtain ⟨h0, h1, h2, h3, h4, h5, -⟩ := h.all
  have ho := h.i64.2.2
  exact text_raw s a o w hR h (Pit.leB s) (Pit.sgB a) (Lib.itoa o) ho (s + 1) (a + 2) (IntWalk.i64_in _ (by omega)) (IntWalk.i64_in _ (by omega)) h0 (by omega) (by omega) (by omega) (by omega) (letter_at h0 h1) (sg_len a)
    (by have := Lib.itoa_length_le o ho.1 ho.2; omega) (Lib.hid rfl) (hR.signI h2 h3)
/-- What Text answers. -/
def txtV (r : Bool) (s a o : Int) : List UInt8 := if r then Pit.txt s a o else []
theorem text_any (s a o : Int) (w : World) (hR : Ready w) :
    Calls Tryd.prog 18 #[pt s a o] w fun e w' => e = .returned (.tuple #[.string ⟨(txtV (Pit.right s a o) s a o).toArray⟩, .int .i64 (errP (Pit.right s a o))]) ∧ Below w.heap.size w w' := by
  cases h : Pit.right s a o
  · exact text_no s a o w hR h
  · exact text_yes s a o w hR ((Pit.right_iff _ _ _).1 h)
end Go.Proofs.YtoopchnncjfjoaaDoor
