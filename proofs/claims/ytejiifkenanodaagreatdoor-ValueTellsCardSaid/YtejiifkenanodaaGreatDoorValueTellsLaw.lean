/-
  ValueTells answers true for every value, ratio and text.
-/
import Derived.Test.YtejiifkenanodaaGreatDoorValueTells
import Derived.Test.YtejiifkenanodaaGreatDoorValU
namespace Go.Proofs.YtejiifkenanodaaGreatDoor
open Go.RowKit

theorem len_i64 (b d n e : Int) : Rat.I64 (Val.lenN b d n e) ∧ Rat.I64 (Val.lenD b d n e) := by
  cases h : Val.ok b d n e
  · unfold Val.lenN Val.lenD Rat.I64
    rw [h]
    simp
  · obtain ⟨s, e1, e2⟩ := Val.len_small h
    have := s.le
    rw [e1, e2]
    unfold Rat.I64
    omega
theorem tells_of (x0 x1 x2 x3 : Int) : TO x0 x1 x2 x3 :=
  ⟨Val.lenN x0 x1 x2 x3, Val.lenD x0 x1 x2 x3, Val.lenE x0 x1 x2 x3, Val.txtE x0 x1 x2 x3, Val.ok x0 x1 x2 x3, Lib.hid fun w hR => length_any _ _ _ _ w hR, Lib.hid fun w => vrefLength_any _ _ _ _ w, Lib.hid fun w hR => vtext_any _ _ _ _ w hR, Lib.hid fun w => vrefText_any _ _ _ _ w, Lib.hid fun w => vright_any _ _ _ _ w, Lib.hid fun w => vrefRight_any _ _ _ _ w, Lib.hid fun w hR => lawSplit_any _ _ w hR (len_i64 _ _ _ _).1 (len_i64 _ _ _ _).2⟩
theorem small_i64 {n d : Int} (h : Val.Small n d) : Rat.I64 (Rat.ofN n d) ∧ Rat.I64 (Rat.ofD n d) := by
  have := h.le
  unfold Rat.I64
  omega
theorem valueTells_calls (b d n e l k : Int) (s : ByteArray) (ib : Rat.I64 b) (id' : Rat.I64 d) (in' : Rat.I64 n) (ie : Rat.I64 e) (il : Rat.I64 l) (ik : Rat.I64 k) (_hs : s.size ≤ maxLen) (w : World) (hR : Vars w) :
    Calls Tryz.prog 3 #[vl b d n e, rt l k, .string s] w fun ed w' => ed = .returned (.bool true) ∧ Below w.heap.size w w' := by
  obtain ⟨N, E, hok, hv⟩ := value_fix b d n e ib id' in' ie
  generalize pickS b 7 = B at *
  generalize pickS d 3 = D at *
  have hF := few_size s
  generalize hFe : s.extract 0 (min (s.size : Int) 30).toNat = F at *
  obtain ⟨r0, r1, r2, r3, re, hr⟩ : ∃ r0 r1 r2 r3 re, rdV (Val.rdv F.data.toList) = .tuple #[vl r0 r1 r2 r3, .int .i64 re] := by
    cases Val.rdv F.data.toList with
    | none => exact ⟨_, _, _, _, _, rfl⟩
    | some x => obtain ⟨x1, x2, x3, x4⟩ := x; exact ⟨_, _, _, _, _, rfl⟩
  have HRA := Lib.hid (fun w (hR : Vars w) => by have := vread_any F w hR (by omega); rw [hr] at this; exact this)
  have HRB := Lib.hid (fun w => by have := vrefRead_any F w hF; rw [hr] at this; exact this)
  obtain ⟨p0, p1⟩ := pickS_bounds l (n := 4097) (by decide)
  obtain ⟨q0, q1⟩ := pickS_bounds k (n := 420) (by decide)
  obtain ⟨t0, t1⟩ := pickS_bounds l (n := 600) (by decide)
  have hu : IntKind.i64.wrap (1 + pickS k 420) = 1 + pickS k 420 := IntWalk.i64_in _ (by omega)
  have s1 : Val.Small (pickS l 4097) (1 + pickS k 420) := ⟨by omega, by omega, by omega, by omega⟩
  have s2 : Val.Small (pickS l 600) 64 := ⟨by omega, by omega, by omega, by omega⟩
  exact valueTells_walk b d n e l k s w hR il ik F (Lib.hid hFe) r0 r1 r2 r3 re HRA HRB B D N E (Lib.hid hv) (fun r => if r = 0 then b else B) (fun r => if r = 0 then d else D) (fun r => if r = 0 then n else N) (fun r => if r = 0 then e else E) rfl rfl rfl rfl rfl rfl rfl rfl (Lib.hid fun r _ => tells_of _ _ _ _) _ _ _ _ (Lib.hid rfl) (Lib.hid rfl) (Lib.hid rfl) hu (by unfold Rat.I64; omega) (by unfold Rat.I64; omega) (by unfold Rat.I64; omega) (by unfold Rat.I64; omega) _ _ _ _ _ _ (Lib.hid ⟨rfl, rfl, rfl⟩) (Lib.hid ⟨rfl, rfl, rfl⟩) (Lib.hid fun w hR => lawSplit_any l k w hR il ik) (Lib.hid fun w hR => lawSplit_any _ _ w hR (small_i64 s1).1 (small_i64 s1).2) (Lib.hid fun w hR => lawSplit_any _ _ w hR (small_i64 s2).1 (small_i64 s2).2)
end Go.Proofs.YtejiifkenanodaaGreatDoor
