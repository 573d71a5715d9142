/-
  The contract of ratio.Text; what the library's variables hold.
-/
import Derived.Test.YtgndmaihhkhnpaaDoorRatG
import Derived.Test.YtgndmaihhkhnpaaDoorShelf
import Derived.Lib.AppendIntMem
import Derived.Lib.ItoaLen
namespace Go.Proofs.YtgndmaihhkhnpaaDoor
open Go.RowKit

/-- What the library's variables hold, as far as Itoa, Atoi and Cut read them. -/
structure Ready (w : World) : Prop where
  tab : Lib.TabIs Tryd.prog w "internal/strconv.uint64pow10" .u64 Lib.pow10Tab
  syn : ∃ te pe, w.cell? ⟨1, 0, none⟩ = some (.iface te pe)
  rng : ∃ te pe, w.cell? ⟨2, 0, none⟩ = some (.iface te pe)
  mx : ∃ m, w.cell? ⟨0, 0, none⟩ = some (.int .i64 m)

theorem Ready.below {w w' : World} (h : Ready w) (hb : Below w.heap.size w w') : Ready w' :=
  ⟨Lib.tabBelow_of_tabIs h.tab w' hb, let ⟨a, b, c⟩ := h.syn; ⟨a, b, cell_later hb c⟩, let ⟨a, b, c⟩ := h.rng; ⟨a, b, cell_later hb c⟩, let ⟨a, c⟩ := h.mx; ⟨a, cell_later hb c⟩⟩

/-- Text. -/
def txt (n d : Int) : List UInt8 := if d = 1 then Lib.itoa n else Lib.itoa n ++ 47 :: Lib.itoa d

theorem itoa_call (n : Int) (w : World) (hn : Rat.I64 n) (hR : Ready w) :
    Calls Tryd.prog 47 #[.int .i64 n] w fun e w' => e = .returned (.string ⟨(Lib.itoa n).toArray⟩) ∧ Below w.heap.size w w' :=
  (Tryd.strconv_Itoa n hn.1 hn.2 w hR.tab).mono fun _ _ ⟨he, k, os, hw⟩ => ⟨he, by rw [hw]; exact Lib.below_grow _ _ (Nat.le_refl _) _ _⟩

set_option maxRecDepth 100000 in
set_option maxHeartbeats 2000000 in
theorem text_no (n d : Int) (w : World) (h1 : Rat.right n d = false) :
    Calls Tryd.prog 26 #[rt n d] w fun e w' => e = .returned (.tuple #[.string ⟨#[]⟩, .int .i64 10]) ∧ Below w.heap.size w w' := by
  go_enter Tryd.func26, Tryd.ntmps26
  go_wp2_with fail
  refine (ratio_right _ _ _).mono ?_
  rintro e w2 ⟨rfl, hb⟩
  have hB : Below w.heap.size w w2 := Below.trans (by repeat (first | exact Below.refl _ _ | refine Below.alloc ?_ (by simp <;> omega) _)) (hb.mono (by simp))
  clear hb
  go_wp2
  go_ret2
  exact ⟨rfl, hB⟩

set_option maxRecDepth 100000 in
set_option maxHeartbeats 2000000 in
theorem text_one (n : Int) (w : World) (h1 : Rat.right n 1 = true) (hn : Rat.I64 n) (hR : Ready w) :
    Calls Tryd.prog 26 #[rt n 1] w fun e w' => e = .returned (.tuple #[.string ⟨(Lib.itoa n).toArray⟩, .int .i64 0]) ∧ Below w.heap.size w w' := by
  go_enter Tryd.func26, Tryd.ntmps26
  go_wp2_with fail
  refine (ratio_right _ _ _).mono ?_
  rintro e w2 ⟨rfl, hb⟩
  have hB : Below w.heap.size w w2 := Below.trans (by repeat (first | exact Below.refl _ _ | refine Below.alloc ?_ (by simp <;> omega) _)) (hb.mono (by simp))
  have c3 : w2.cell? ⟨w.heap.size, 0, none⟩ = some (.int .i64 n) := (hb.cell (by simp <;> omega)).trans (by go_simp)
  have c4 : w2.cell? ⟨w.heap.size, 1, none⟩ = some (.int .i64 1) := (hb.cell (by simp <;> omega)).trans (by go_simp)
  clear hb
  have hR2 := hR.below hB
  go_wp2_with fail
  refine (itoa_call _ _ hn hR2).mono ?_
  rintro e w3 ⟨rfl, hb3⟩
  have hB3 := below_two hB hb3
  clear hb3
  go_wp2
  go_ret2
  exact ⟨rfl, hB3⟩

set_option maxRecDepth 100000 in
set_option maxHeartbeats 2000000 in
theorem text_two (n d : Int) (w : World) (h1 : Rat.right n d = true) (hn : Rat.I64 n) (hd : Rat.I64 d) (h0 : d ≠ 1) (hR : Ready w) :
    Calls Tryd.prog 26 #[rt n d] w fun e w' => e = .returned (.tuple #[.string ⟨(Lib.itoa n ++ 47 :: Lib.itoa d).toArray⟩, .int .i64 0]) ∧ Below w.heap.size w w' := by
  have hz : (d == 1) = false := by simp; omega
  have l1 := Lib.itoa_length_le n hn.1 hn.2
  have l2 := Lib.itoa_length_le d hd.1 hd.2
  generalize hx : Lib.itoa n = x at *
  generalize hy : Lib.itoa d = y at *
  have HX := Lib.hid hx
  have HY := Lib.hid hy
  clear hx hy
  have a1 : ∀ w : World, (Op.stringOp .add ⟨x.toArray⟩ ⟨#[47]⟩).run Tryd.prog w = .ok (.string ⟨(x ++ [47]).toArray⟩) w := fun w => run_string_add_lists w x [47] (by omega) (by decide)
  have a2 : ∀ w : World, (Op.stringOp .add ⟨(x ++ [47]).toArray⟩ ⟨y.toArray⟩).run Tryd.prog w = .ok (.string ⟨(x ++ 47 :: y).toArray⟩) w := fun w => by have := run_string_add_lists (P := Tryd.prog) w (x ++ [47]) y (by simp; omega) (by omega); simpa using this
  go_enter Tryd.func26, Tryd.ntmps26
  go_wp2_with fail
  refine (ratio_right _ _ _).mono ?_
  rintro e w2 ⟨rfl, hb⟩
  have hB : Below w.heap.size w w2 := Below.trans (by repeat (first | exact Below.refl _ _ | refine Below.alloc ?_ (by simp <;> omega) _)) (hb.mono (by simp))
  have c3 : w2.cell? ⟨w.heap.size, 0, none⟩ = some (.int .i64 n) := (hb.cell (by simp <;> omega)).trans (by go_simp)
  have c4 : w2.cell? ⟨w.heap.size, 1, none⟩ = some (.int .i64 d) := (hb.cell (by simp <;> omega)).trans (by go_simp)
  clear hb
  have hR2 := hR.below hB
  go_wp2_with fail
  go_region_held3 (fun w' => w'.cell? ⟨w.heap.size, 0, none⟩ = some (.int .i64 n) ∧ w'.cell? ⟨w.heap.size, 1, none⟩ = some (.int .i64 d) ∧ Ready w' ∧ Below w.heap.size w w')
    (((try go_split_ands); refine ⟨?_, ?_, ?_, ?_⟩ <;> first | assumption | (refine cell_later hq ?_; assumption) | (refine below_two ?_ hq; assumption) | (refine Ready.below ?_ hq; assumption) | exact c3 | exact c4 | exact hB.drew | exact hR2.below ((Below.refl _ _).drew)))
    (first
      | (go_at_call 47; (try go_split_ands); first | (refine (itoa_call _ _ hn ?_).mono ?_; assumption; rintro e w' ⟨rfl, hq⟩; rw [HX.out]) | (refine (itoa_call _ _ hd ?_).mono ?_; assumption; rintro e w' ⟨rfl, hq⟩; rw [HY.out])))
  rename_i hS
  obtain ⟨-, -, -, hBl⟩ := hS
  go_wp2
  go_ret2
  exact ⟨rfl, hBl⟩

theorem text_yes (n d : Int) (w : World) (h1 : Rat.right n d = true) (hn : Rat.I64 n) (hd : Rat.I64 d) (hR : Ready w) :
    Calls Tryd.prog 26 #[rt n d] w fun e w' => e = .returned (.tuple #[.string ⟨(txt n d).toArray⟩, .int .i64 0]) ∧ Below w.heap.size w w' := by
  unfold txt
  by_cases h : d = 1
  · subst h; rw [if_pos rfl]; exact text_one n w h1 hn hR
  · rw [if_neg h]; exact text_two n d w h1 hn hd h hR

/-- What Text answers. -/
def txtV (r : Bool) (n d : Int) : List UInt8 := if r then txt n d else []
theorem text_any (n d : Int) (w : World) (hR : Ready w) :
    Calls Tryd.prog 26 #[rt n d] w fun e w' => e = .returned (.tuple #[.string ⟨(txtV (Rat.right n d) n d).toArray⟩, .int .i64 (floorE (Rat.right n d))]) ∧ Below w.heap.size w w' := by
  cases h1 : Rat.right n d
  · exact text_no n d w h1
  · have hx := (Rat.right_iff _ _).1 h1
    have hM := Rat.M_eq
    exact text_yes n d w h1 (i64_small (by have := hx.n0; omega) (by have := hx.nM; omega)) (i64_small (by have := hx.d1; omega) (by have := hx.dM; omega)) hR
end Go.Proofs.YtgndmaihhkhnpaaDoor
