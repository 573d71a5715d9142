/-
  What the library's variables hold.
-/
import Derived.Test.YtejiifkenanodaaGreatDoorRatG
import Derived.Lib.AppendIntMem
import Derived.Lib.ItoaLen
namespace Go.Proofs.YtejiifkenanodaaGreatDoor
open Go.RowKit

/-- What the library's variables hold, as far as Itoa, Atoi and Cut read them. -/
structure Ready (w : World) : Prop where
  tab : Lib.TabIs Tryz.prog w "internal/strconv.uint64pow10" .u64 Lib.pow10Tab
  syn : ∃ te pe, w.cell? ⟨4, 0, none⟩ = some (.iface te pe)
  rng : ∃ te pe, w.cell? ⟨5, 0, none⟩ = some (.iface te pe)
  mx : ∃ m, w.cell? ⟨3, 0, none⟩ = some (.int .i64 m)

theorem Ready.below {w w' : World} (h : Ready w) (hb : Below w.heap.size w w') : Ready w' :=
  ⟨Lib.tabBelow_of_tabIs h.tab w' hb, let ⟨a, b, c⟩ := h.syn; ⟨a, b, cell_later hb c⟩, let ⟨a, b, c⟩ := h.rng; ⟨a, b, cell_later hb c⟩, let ⟨a, c⟩ := h.mx; ⟨a, cell_later hb c⟩⟩

end Go.Proofs.YtejiifkenanodaaGreatDoor
