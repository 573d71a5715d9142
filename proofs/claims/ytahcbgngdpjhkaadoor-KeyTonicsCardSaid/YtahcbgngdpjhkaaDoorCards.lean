/-
  DERIVED. GIVEN WITH THE SEED: THE CARDS: each row of YtahcbgngdpjhkaaDoorRows.lean that lists a variable, with what it lists TIED to the program's text (the seventh form; the later family's looks); each row that meets fmt, with fmt's text TOLD by the authors' own Lean function (tested against real Go, not proved from fmt's source: count such statements apart). THE CARD IS WHAT COUNTS. Prove the row's statement (the work); the ties are given (YtahcbgngdpjhkaaDoorTie.lean); close each card by the builder's one call (the guide's Derived/Test/ToyasCard.lean, 'card_holds'). Laid BY PROGRAM, IN A SANDBOX (cutbox-door.mjs). By AI agents, Wed Nov 11 2026. No macro, syntax, notation, axiom, sorry.
-/
import Derived.Test.YtahcbgngdpjhkaaDoorRows
import GoSem.ClaimSeven
namespace Go.Proofs.YtahcbgngdpjhkaaDoor
namespace Rows

/-- THE TIED CARD OF 'partitalaw03.KeyRights'. -/
def keyRightsCard : Claim7 := { stood := { row := keyRightsRow, standIns := [], harness := (true, "68c4c18354c645bc2ef911288617ec045dff94b3fd59990371f4f63e0c5ee6ff"), looks := false }, kinds := [], alts := [], laidByText := true, laidKinds := [.data], laidTests := true, laidLooks := .later }
def KeyRightsCardSaid : Prop := Claim7.holds Tryd.pinned (.plain (OpenSpec.ofChange keyRightsSpec)) keyRightsCard

/-- THE TIED CARD OF 'partitalaw03.KeyAlters'. -/
def keyAltersCard : Claim7 := { stood := { row := keyAltersRow, standIns := [], harness := (true, "68c4c18354c645bc2ef911288617ec045dff94b3fd59990371f4f63e0c5ee6ff"), looks := false }, kinds := [], alts := [], laidByText := true, laidKinds := [.data], laidTests := true, laidLooks := .later }
def KeyAltersCardSaid : Prop := Claim7.holds Tryd.pinned (.plain (OpenSpec.ofChange keyAltersSpec)) keyAltersCard

/-- THE TIED CARD OF 'partitalaw03.KeyScales'. -/
def keyScalesCard : Claim7 := { stood := { row := keyScalesRow, standIns := [], harness := (true, "68c4c18354c645bc2ef911288617ec045dff94b3fd59990371f4f63e0c5ee6ff"), looks := false }, kinds := [], alts := [], laidByText := true, laidKinds := [.data], laidTests := true, laidLooks := .later }
def KeyScalesCardSaid : Prop := Claim7.holds Tryd.pinned (.plain (OpenSpec.ofChange keyScalesSpec)) keyScalesCard

/-- THE TIED CARD OF 'partitalaw03.KeyMoves'. -/
def keyMovesCard : Claim7 := { stood := { row := keyMovesRow, standIns := [], harness := (true, "68c4c18354c645bc2ef911288617ec045dff94b3fd59990371f4f63e0c5ee6ff"), looks := false }, kinds := [], alts := [], laidByText := true, laidKinds := [.data], laidTests := true, laidLooks := .later }
def KeyMovesCardSaid : Prop := Claim7.holds Tryd.pinned (.plain (OpenSpec.ofChange keyMovesSpec)) keyMovesCard

/-- THE TIED CARD OF 'partitalaw03.KeySpells'. -/
def keySpellsCard : Claim7 := { stood := { row := keySpellsRow, standIns := [], harness := (true, "68c4c18354c645bc2ef911288617ec045dff94b3fd59990371f4f63e0c5ee6ff"), looks := false }, kinds := [], alts := [], laidByText := true, laidKinds := [.data, .data], laidTests := true, laidLooks := .later }
def KeySpellsCardSaid : Prop := Claim7.holds Tryd.pinned (.plain (OpenSpec.ofChange keySpellsSpec)) keySpellsCard

/-- THE TIED CARD OF 'partitalaw03.KeyReads'. -/
def keyReadsCard : Claim7 := { stood := { row := keyReadsRow, standIns := [], harness := (true, "68c4c18354c645bc2ef911288617ec045dff94b3fd59990371f4f63e0c5ee6ff"), looks := false }, kinds := [], alts := [], laidByText := true, laidKinds := [.data], laidTests := true, laidLooks := .later }
def KeyReadsCardSaid : Prop := Claim7.holds Tryd.pinned (.plain (OpenSpec.ofChange keyReadsSpec)) keyReadsCard

/-- THE TIED CARD OF 'partitalaw03.KeyBack'. -/
def keyBackCard : Claim7 := { stood := { row := keyBackRow, standIns := [], harness := (true, "68c4c18354c645bc2ef911288617ec045dff94b3fd59990371f4f63e0c5ee6ff"), looks := false }, kinds := [], alts := [], laidByText := true, laidKinds := [.data], laidTests := true, laidLooks := .later }
def KeyBackCardSaid : Prop := Claim7.holds Tryd.pinned (.plain (OpenSpec.ofChange keyBackSpec)) keyBackCard

/-- THE TIED CARD OF 'partitalaw03.KeyMoveBack'. -/
def keyMoveBackCard : Claim7 := { stood := { row := keyMoveBackRow, standIns := [], harness := (true, "68c4c18354c645bc2ef911288617ec045dff94b3fd59990371f4f63e0c5ee6ff"), looks := false }, kinds := [], alts := [], laidByText := true, laidKinds := [.data], laidTests := true, laidLooks := .later }
def KeyMoveBackCardSaid : Prop := Claim7.holds Tryd.pinned (.plain (OpenSpec.ofChange keyMoveBackSpec)) keyMoveBackCard

/-- THE TIED CARD OF 'partitalaw03.KeySpelled'. -/
def keySpelledCard : Claim7 := { stood := { row := keySpelledRow, standIns := [], harness := (true, "68c4c18354c645bc2ef911288617ec045dff94b3fd59990371f4f63e0c5ee6ff"), looks := false }, kinds := [], alts := [], laidByText := true, laidKinds := [.data, .data], laidTests := true, laidLooks := .later }
def KeySpelledCardSaid : Prop := Claim7.holds Tryd.pinned (.plain (OpenSpec.ofChange keySpelledSpec)) keySpelledCard

/-- THE TIED CARD OF 'partitalaw03.KeyScaleSpells'. -/
def keyScaleSpellsCard : Claim7 := { stood := { row := keyScaleSpellsRow, standIns := [], harness := (true, "68c4c18354c645bc2ef911288617ec045dff94b3fd59990371f4f63e0c5ee6ff"), looks := false }, kinds := [], alts := [], laidByText := true, laidKinds := [.data, .data], laidTests := true, laidLooks := .later }
def KeyScaleSpellsCardSaid : Prop := Claim7.holds Tryd.pinned (.plain (OpenSpec.ofChange keyScaleSpellsSpec)) keyScaleSpellsCard

/-- THE TIED CARD OF 'partitalaw03.KeySignature'. -/
def keySignatureCard : Claim7 := { stood := { row := keySignatureRow, standIns := [], harness := (true, "68c4c18354c645bc2ef911288617ec045dff94b3fd59990371f4f63e0c5ee6ff"), looks := false }, kinds := [], alts := [], laidByText := true, laidKinds := [.data], laidTests := true, laidLooks := .later }
def KeySignatureCardSaid : Prop := Claim7.holds Tryd.pinned (.plain (OpenSpec.ofChange keySignatureSpec)) keySignatureCard

/-- THE TIED CARD OF 'partitalaw03.KeyRelative'. -/
def keyRelativeCard : Claim7 := { stood := { row := keyRelativeRow, standIns := [], harness := (true, "68c4c18354c645bc2ef911288617ec045dff94b3fd59990371f4f63e0c5ee6ff"), looks := false }, kinds := [], alts := [], laidByText := true, laidKinds := [.data], laidTests := true, laidLooks := .later }
def KeyRelativeCardSaid : Prop := Claim7.holds Tryd.pinned (.plain (OpenSpec.ofChange keyRelativeSpec)) keyRelativeCard

/-- THE TIED CARD OF 'partitalaw03.KeyFifth'. -/
def keyFifthCard : Claim7 := { stood := { row := keyFifthRow, standIns := [], harness := (true, "68c4c18354c645bc2ef911288617ec045dff94b3fd59990371f4f63e0c5ee6ff"), looks := false }, kinds := [], alts := [], laidByText := true, laidKinds := [.data], laidTests := true, laidLooks := .later }
def KeyFifthCardSaid : Prop := Claim7.holds Tryd.pinned (.plain (OpenSpec.ofChange keyFifthSpec)) keyFifthCard

/-- THE TIED CARD OF 'partitalaw03.KeyTonics'. -/
def keyTonicsCard : Claim7 := { stood := { row := keyTonicsRow, standIns := [], harness := (true, "68c4c18354c645bc2ef911288617ec045dff94b3fd59990371f4f63e0c5ee6ff"), looks := false }, kinds := [], alts := [], laidByText := true, laidKinds := [.data, .data], laidTests := true, laidLooks := .later }
def KeyTonicsCardSaid : Prop := Claim7.holds Tryd.pinned (.plain (OpenSpec.ofChange keyTonicsSpec)) keyTonicsCard

/-- THE SECOND FORM's CARD OF 'partitalaw03.KeyRights'. -/
def keyRightsUptoCard : Claim7 := { stood := { row := keyRightsUptoRow, standIns := [], harness := (true, "68c4c18354c645bc2ef911288617ec045dff94b3fd59990371f4f63e0c5ee6ff"), looks := false }, kinds := [], alts := [], laidByText := true, laidKinds := [.data], laidTests := true, laidLooks := .later }
def KeyRightsUptoCardSaid : Prop := Claim7.holds Tryd.pinned (.plain (OpenSpec.upto keyRightsSpec)) keyRightsUptoCard

/-- THE SECOND FORM's CARD OF 'partitalaw03.KeyAlters'. -/
def keyAltersUptoCard : Claim7 := { stood := { row := keyAltersUptoRow, standIns := [], harness := (true, "68c4c18354c645bc2ef911288617ec045dff94b3fd59990371f4f63e0c5ee6ff"), looks := false }, kinds := [], alts := [], laidByText := true, laidKinds := [.data], laidTests := true, laidLooks := .later }
def KeyAltersUptoCardSaid : Prop := Claim7.holds Tryd.pinned (.plain (OpenSpec.upto keyAltersSpec)) keyAltersUptoCard

/-- THE SECOND FORM's CARD OF 'partitalaw03.KeyScales'. -/
def keyScalesUptoCard : Claim7 := { stood := { row := keyScalesUptoRow, standIns := [], harness := (true, "68c4c18354c645bc2ef911288617ec045dff94b3fd59990371f4f63e0c5ee6ff"), looks := false }, kinds := [], alts := [], laidByText := true, laidKinds := [.data], laidTests := true, laidLooks := .later }
def KeyScalesUptoCardSaid : Prop := Claim7.holds Tryd.pinned (.plain (OpenSpec.upto keyScalesSpec)) keyScalesUptoCard

/-- THE SECOND FORM's CARD OF 'partitalaw03.KeyMoves'. -/
def keyMovesUptoCard : Claim7 := { stood := { row := keyMovesUptoRow, standIns := [], harness := (true, "68c4c18354c645bc2ef911288617ec045dff94b3fd59990371f4f63e0c5ee6ff"), looks := false }, kinds := [], alts := [], laidByText := true, laidKinds := [.data], laidTests := true, laidLooks := .later }
def KeyMovesUptoCardSaid : Prop := Claim7.holds Tryd.pinned (.plain (OpenSpec.upto keyMovesSpec)) keyMovesUptoCard

/-- THE SECOND FORM's CARD OF 'partitalaw03.KeySpells'. -/
def keySpellsUptoCard : Claim7 := { stood := { row := keySpellsUptoRow, standIns := [], harness := (true, "68c4c18354c645bc2ef911288617ec045dff94b3fd59990371f4f63e0c5ee6ff"), looks := false }, kinds := [], alts := [], laidByText := true, laidKinds := [.data, .data], laidTests := true, laidLooks := .later }
def KeySpellsUptoCardSaid : Prop := Claim7.holds Tryd.pinned (.plain (OpenSpec.upto keySpellsSpec)) keySpellsUptoCard

/-- THE SECOND FORM's CARD OF 'partitalaw03.KeyReads'. -/
def keyReadsUptoCard : Claim7 := { stood := { row := keyReadsUptoRow, standIns := [], harness := (true, "68c4c18354c645bc2ef911288617ec045dff94b3fd59990371f4f63e0c5ee6ff"), looks := false }, kinds := [], alts := [], laidByText := true, laidKinds := [.data], laidTests := true, laidLooks := .later }
def KeyReadsUptoCardSaid : Prop := Claim7.holds Tryd.pinned (.plain (OpenSpec.upto keyReadsSpec)) keyReadsUptoCard

/-- THE SECOND FORM's CARD OF 'partitalaw03.KeyBack'. -/
def keyBackUptoCard : Claim7 := { stood := { row := keyBackUptoRow, standIns := [], harness := (true, "68c4c18354c645bc2ef911288617ec045dff94b3fd59990371f4f63e0c5ee6ff"), looks := false }, kinds := [], alts := [], laidByText := true, laidKinds := [.data], laidTests := true, laidLooks := .later }
def KeyBackUptoCardSaid : Prop := Claim7.holds Tryd.pinned (.plain (OpenSpec.upto keyBackSpec)) keyBackUptoCard

/-- THE SECOND FORM's CARD OF 'partitalaw03.KeyMoveBack'. -/
def keyMoveBackUptoCard : Claim7 := { stood := { row := keyMoveBackUptoRow, standIns := [], harness := (true, "68c4c18354c645bc2ef911288617ec045dff94b3fd59990371f4f63e0c5ee6ff"), looks := false }, kinds := [], alts := [], laidByText := true, laidKinds := [.data], laidTests := true, laidLooks := .later }
def KeyMoveBackUptoCardSaid : Prop := Claim7.holds Tryd.pinned (.plain (OpenSpec.upto keyMoveBackSpec)) keyMoveBackUptoCard

/-- THE SECOND FORM's CARD OF 'partitalaw03.KeySpelled'. -/
def keySpelledUptoCard : Claim7 := { stood := { row := keySpelledUptoRow, standIns := [], harness := (true, "68c4c18354c645bc2ef911288617ec045dff94b3fd59990371f4f63e0c5ee6ff"), looks := false }, kinds := [], alts := [], laidByText := true, laidKinds := [.data, .data], laidTests := true, laidLooks := .later }
def KeySpelledUptoCardSaid : Prop := Claim7.holds Tryd.pinned (.plain (OpenSpec.upto keySpelledSpec)) keySpelledUptoCard

/-- THE SECOND FORM's CARD OF 'partitalaw03.KeyScaleSpells'. -/
def keyScaleSpellsUptoCard : Claim7 := { stood := { row := keyScaleSpellsUptoRow, standIns := [], harness := (true, "68c4c18354c645bc2ef911288617ec045dff94b3fd59990371f4f63e0c5ee6ff"), looks := false }, kinds := [], alts := [], laidByText := true, laidKinds := [.data, .data], laidTests := true, laidLooks := .later }
def KeyScaleSpellsUptoCardSaid : Prop := Claim7.holds Tryd.pinned (.plain (OpenSpec.upto keyScaleSpellsSpec)) keyScaleSpellsUptoCard

/-- THE SECOND FORM's CARD OF 'partitalaw03.KeySignature'. -/
def keySignatureUptoCard : Claim7 := { stood := { row := keySignatureUptoRow, standIns := [], harness := (true, "68c4c18354c645bc2ef911288617ec045dff94b3fd59990371f4f63e0c5ee6ff"), looks := false }, kinds := [], alts := [], laidByText := true, laidKinds := [.data], laidTests := true, laidLooks := .later }
def KeySignatureUptoCardSaid : Prop := Claim7.holds Tryd.pinned (.plain (OpenSpec.upto keySignatureSpec)) keySignatureUptoCard

/-- THE SECOND FORM's CARD OF 'partitalaw03.KeyRelative'. -/
def keyRelativeUptoCard : Claim7 := { stood := { row := keyRelativeUptoRow, standIns := [], harness := (true, "68c4c18354c645bc2ef911288617ec045dff94b3fd59990371f4f63e0c5ee6ff"), looks := false }, kinds := [], alts := [], laidByText := true, laidKinds := [.data], laidTests := true, laidLooks := .later }
def KeyRelativeUptoCardSaid : Prop := Claim7.holds Tryd.pinned (.plain (OpenSpec.upto keyRelativeSpec)) keyRelativeUptoCard

/-- THE SECOND FORM's CARD OF 'partitalaw03.KeyFifth'. -/
def keyFifthUptoCard : Claim7 := { stood := { row := keyFifthUptoRow, standIns := [], harness := (true, "68c4c18354c645bc2ef911288617ec045dff94b3fd59990371f4f63e0c5ee6ff"), looks := false }, kinds := [], alts := [], laidByText := true, laidKinds := [.data], laidTests := true, laidLooks := .later }
def KeyFifthUptoCardSaid : Prop := Claim7.holds Tryd.pinned (.plain (OpenSpec.upto keyFifthSpec)) keyFifthUptoCard

/-- THE SECOND FORM's CARD OF 'partitalaw03.KeyTonics'. -/
def keyTonicsUptoCard : Claim7 := { stood := { row := keyTonicsUptoRow, standIns := [], harness := (true, "68c4c18354c645bc2ef911288617ec045dff94b3fd59990371f4f63e0c5ee6ff"), looks := false }, kinds := [], alts := [], laidByText := true, laidKinds := [.data, .data], laidTests := true, laidLooks := .later }
def KeyTonicsUptoCardSaid : Prop := Claim7.holds Tryd.pinned (.plain (OpenSpec.upto keyTonicsSpec)) keyTonicsUptoCard
end Rows
end Go.Proofs.YtahcbgngdpjhkaaDoor
