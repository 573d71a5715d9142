/-
  The contract of ratio.Read.
-/
import Derived.Test.YtejiifkenanodaaGreatDoorRatH
import Derived.Test.YtejiifkenanodaaGreatDoorShelf
namespace Go.Proofs.YtejiifkenanodaaGreatDoor
open Go.RowKit

/-- What Atoi answers, where it answers a number. -/
theorem atoi_ok (s : ByteArray) (hs : s.size ≤ 1000) (v : Int) (h : Lib.atoiAll s.data.toList = .ok v) (w : World) :
    Calls Tryz.prog 66 #[.string s] w fun e w' => e = .returned (.tuple #[.int .i64 v, .nilIface]) ∧ Below w.heap.size w w' :=
  (Tryz.strconv_Atoi_ok s (by omega) v h w).mono fun _ _ ⟨he, hw⟩ => ⟨he, by
    rcases hw with hw | ⟨t, hw⟩
    · rw [hw]; exact Below.refl _ _
    · rw [hw]; exact Lib.bytesWorld_below _ _ _⟩

def AtoiBad (w : World) (e : Ending) (w' : World) : Prop := ∃ v N, e = .returned (.tuple #[.int .i64 v, .iface 129 (.pointer (some ⟨N, 0, none⟩))]) ∧ Below w.heap.size w w'
theorem atoi_bad (s : ByteArray) (hs : s.size ≤ 1000) (h : ∀ v, Lib.atoiAll s.data.toList ≠ .ok v) (w : World) (hR : Ready w) :
    Calls Tryz.prog 66 #[.string s] w (AtoiBad w) := by
  cases ha : Lib.atoiAll s.data.toList
  · exact absurd ha (h _)
  · obtain ⟨te, pe, hc⟩ := hR.syn
    exact (Any.strconv_Atoi_syntax Tryz.laysC172 s (by omega) ha _ w hc (Or.inr ⟨te, pe, rfl⟩)).mono fun _ _ ⟨N, he, _, _, hb⟩ => ⟨_, N, he, hb⟩
  · obtain ⟨te, pe, hc⟩ := hR.rng
    exact (Any.strconv_Atoi_range Tryz.laysC172 s (by omega) ha _ w hc (Or.inr ⟨te, pe, rfl⟩)).mono fun _ _ ⟨N, he, _, _, hb⟩ => ⟨_, N, he, hb⟩

/-- The two halves of a text. -/
def lower (b : List UInt8) (two : Bool) : List UInt8 := if two then b else [49]
theorem cut_le (l : List UInt8) : (Lib.cut l [47]).1.length ≤ l.length ∧ (Lib.cut l [47]).2.1.length ≤ l.length := by
  unfold Lib.cut
  split
  · simp; omega
  · simp

theorem atoi_i64 {l : List UInt8} {v : Int} (h : Lib.atoiAll l = .ok v) : Rat.I64 v := Lib.atoiAll_bounds h

theorem atoi_49 : Lib.atoiAll (ByteArray.mk #[49]).data.toList = .ok 1 := by decide
theorem sz (l : List UInt8) : (⟨l.toArray⟩ : ByteArray).size = l.length := by simp [ByteArray.size]

end Go.Proofs.YtejiifkenanodaaGreatDoor
