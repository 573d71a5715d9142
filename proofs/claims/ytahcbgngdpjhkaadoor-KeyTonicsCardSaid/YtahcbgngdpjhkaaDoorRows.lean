/-
  NARROWER THAN 'FOR EVERY INPUT', by the rows' own cells (each row's printed sentence says how): KeyRights: laid · KeyAlters: laid · KeyScales: laid · KeyMoves: laid · KeySpells: laid · KeyReads: laid · KeyBack: laid · KeyMoveBack: laid · KeySpelled: laid · KeyScaleSpells: laid · KeySignature: laid · KeyRelative: laid · KeyFifth: laid · KeyTonics: laid.
  DERIVED. THE GIVEN ROWS OF THIS SEAT. 14 by the template 'for every input the law returns true; each argument reads behind the call as it read before'; 0 by the template 'total and deterministic' (their statements: YtahcbgngdpjhkaaDoorTotals.lean).
  GIVEN WITH THE SEED: the statements are not yours to turn. If you find one false, say at which input.
  Laid BY PROGRAM, IN A SANDBOX (cutbox-rows.mjs): the forced cells as the released guide's own fill.sh prints them over the translation dd5215ad8f0bde28… (all of the seat's roots in one cut). By AI agents, Wed Nov 11 2026. No macro, syntax, notation, axiom, sorry.
-/
import Derived.Test.YtahcbgngdpjhkaaDoorChecked
import GoSem.Claim
import GoSem.ClaimJoined
import GoSem.ClaimMapViews
import Derived.JoinedTies
import Derived.KernelRfl
namespace Go.Proofs.YtahcbgngdpjhkaaDoor
/- THE CELL 'sum', in the pinned program and in every row, IS THE sha256 OF THE DUMP (.gsa) THAT YtahcbgngdpjhkaaDoorProg.lean LOADS. Nothing in Lean hashes anything: it is a label: what it is worth is what the hold of that sum in a sandbox is worth. -/
noncomputable def Tryd.pinned : Pinned := { name := "ytahcbgngdpjhkaadoor", sum := "dd5215ad8f0bde28262a21aff2615a3f35ea4c723140cba78980918a4cc97826", checked := Tryd.checked }
namespace Rows
def none {H : Type} : Left H := { results := [], args := [] }

/- WHAT THE LISTED PACKAGE-LEVEL VARIABLES READ AS WHEN THE CALL BEGINS. Each datum BY PROGRAM (the guide's laid-datum.mjs) off the statement by which the dump's own 'gosem.cut.vars' lays the variable. In a bare row this is a premise. The card (YtahcbgngdpjhkaaDoorCards.lean) ties it to the program's text. -/
def laid_partita_key_letters {H : Type} : DataW H := .agg [.lit (.string [67]), .lit (.string [68]), .lit (.string [69]), .lit (.string [70]), .lit (.string [71]), .lit (.string [65]), .lit (.string [66])]
def laid_partita_pitch_halves {H : Type} : DataW H := .agg [.lit (.int .i64 0), .lit (.int .i64 2), .lit (.int .i64 4), .lit (.int .i64 5), .lit (.int .i64 7), .lit (.int .i64 9), .lit (.int .i64 11)]

/-- 'partitalaw03.KeyRights': WHATEVER THE INPUT: true; the input reads as it did. -/
def keyRightsSpec : ChangeSpec := { name := "keyRights", fn := fun _ => fun
  | [d] => { results := [.lit (.bool true)], args := [d] }
  | _ => none }
def keyRightsRow : OpenClaim := { program := "ytahcbgngdpjhkaadoor", sum := "dd5215ad8f0bde28262a21aff2615a3f35ea4c723140cba78980918a4cc97826", func := "partita/partitalaw03.KeyRights", spec := "keyRights", inPlace := ["internal/abi.NoEscape", "internal/bytealg.MakeNoZero"], unfollowed := true, recurses := true, named := ["partita/key.letters"], apart := false, laid := [("partita/key.letters", laid_partita_key_letters)] }
def KeyRightsSaid : Prop := keyRightsRow.holds Tryd.pinned (OpenSpec.ofChange keyRightsSpec)

/-- ITS FALSE NEIGHBOUR: 'it returns false'. Refute it at one input. -/
def keyRightsWrong : ChangeSpec := { name := "keyRights", fn := fun _ => fun
  | [d] => { results := [.lit (.bool false)], args := [d] }
  | _ => none }
def KeyRightsWrongFalsely : Prop := keyRightsRow.holds Tryd.pinned (OpenSpec.ofChange keyRightsWrong)

/-- 'partitalaw03.KeyAlters': WHATEVER THE INPUT: true; the input reads as it did. -/
def keyAltersSpec : ChangeSpec := { name := "keyAlters", fn := fun _ => fun
  | [d1, d2] => { results := [.lit (.bool true)], args := [d1, d2] }
  | _ => none }
def keyAltersRow : OpenClaim := { program := "ytahcbgngdpjhkaadoor", sum := "dd5215ad8f0bde28262a21aff2615a3f35ea4c723140cba78980918a4cc97826", func := "partita/partitalaw03.KeyAlters", spec := "keyAlters", inPlace := ["internal/abi.NoEscape", "internal/bytealg.MakeNoZero"], unfollowed := true, recurses := true, named := ["partita/key.letters"], apart := false, laid := [("partita/key.letters", laid_partita_key_letters)] }
def KeyAltersSaid : Prop := keyAltersRow.holds Tryd.pinned (OpenSpec.ofChange keyAltersSpec)

/-- ITS FALSE NEIGHBOUR: 'it returns false'. Refute it at one input. -/
def keyAltersWrong : ChangeSpec := { name := "keyAlters", fn := fun _ => fun
  | [d1, d2] => { results := [.lit (.bool false)], args := [d1, d2] }
  | _ => none }
def KeyAltersWrongFalsely : Prop := keyAltersRow.holds Tryd.pinned (OpenSpec.ofChange keyAltersWrong)

/-- 'partitalaw03.KeyScales': WHATEVER THE INPUT: true; the input reads as it did. -/
def keyScalesSpec : ChangeSpec := { name := "keyScales", fn := fun _ => fun
  | [d] => { results := [.lit (.bool true)], args := [d] }
  | _ => none }
def keyScalesRow : OpenClaim := { program := "ytahcbgngdpjhkaadoor", sum := "dd5215ad8f0bde28262a21aff2615a3f35ea4c723140cba78980918a4cc97826", func := "partita/partitalaw03.KeyScales", spec := "keyScales", inPlace := ["internal/abi.NoEscape", "internal/bytealg.MakeNoZero"], unfollowed := true, recurses := true, named := ["partita/key.letters"], apart := false, laid := [("partita/key.letters", laid_partita_key_letters)] }
def KeyScalesSaid : Prop := keyScalesRow.holds Tryd.pinned (OpenSpec.ofChange keyScalesSpec)

/-- ITS FALSE NEIGHBOUR: 'it returns false'. Refute it at one input. -/
def keyScalesWrong : ChangeSpec := { name := "keyScales", fn := fun _ => fun
  | [d] => { results := [.lit (.bool false)], args := [d] }
  | _ => none }
def KeyScalesWrongFalsely : Prop := keyScalesRow.holds Tryd.pinned (OpenSpec.ofChange keyScalesWrong)

/-- 'partitalaw03.KeyMoves': WHATEVER THE INPUT: true; the input reads as it did. -/
def keyMovesSpec : ChangeSpec := { name := "keyMoves", fn := fun _ => fun
  | [d1, d2] => { results := [.lit (.bool true)], args := [d1, d2] }
  | _ => none }
def keyMovesRow : OpenClaim := { program := "ytahcbgngdpjhkaadoor", sum := "dd5215ad8f0bde28262a21aff2615a3f35ea4c723140cba78980918a4cc97826", func := "partita/partitalaw03.KeyMoves", spec := "keyMoves", inPlace := ["internal/abi.NoEscape", "internal/bytealg.MakeNoZero"], unfollowed := true, recurses := true, named := ["partita/key.letters"], apart := false, laid := [("partita/key.letters", laid_partita_key_letters)] }
def KeyMovesSaid : Prop := keyMovesRow.holds Tryd.pinned (OpenSpec.ofChange keyMovesSpec)

/-- ITS FALSE NEIGHBOUR: 'it returns false'. Refute it at one input. -/
def keyMovesWrong : ChangeSpec := { name := "keyMoves", fn := fun _ => fun
  | [d1, d2] => { results := [.lit (.bool false)], args := [d1, d2] }
  | _ => none }
def KeyMovesWrongFalsely : Prop := keyMovesRow.holds Tryd.pinned (OpenSpec.ofChange keyMovesWrong)

/-- 'partitalaw03.KeySpells': WHATEVER THE INPUT: true; the input reads as it did. -/
def keySpellsSpec : ChangeSpec := { name := "keySpells", fn := fun _ => fun
  | [d1, d2] => { results := [.lit (.bool true)], args := [d1, d2] }
  | _ => none }
def keySpellsRow : OpenClaim := { program := "ytahcbgngdpjhkaadoor", sum := "dd5215ad8f0bde28262a21aff2615a3f35ea4c723140cba78980918a4cc97826", func := "partita/partitalaw03.KeySpells", spec := "keySpells", inPlace := ["internal/abi.NoEscape", "internal/bytealg.MakeNoZero"], unfollowed := true, recurses := true, named := ["partita/key.letters", "partita/pitch.halves"], apart := false, laid := [("partita/pitch.halves", laid_partita_pitch_halves), ("partita/key.letters", laid_partita_key_letters)] }
def KeySpellsSaid : Prop := keySpellsRow.holds Tryd.pinned (OpenSpec.ofChange keySpellsSpec)

/-- ITS FALSE NEIGHBOUR: 'it returns false'. Refute it at one input. -/
def keySpellsWrong : ChangeSpec := { name := "keySpells", fn := fun _ => fun
  | [d1, d2] => { results := [.lit (.bool false)], args := [d1, d2] }
  | _ => none }
def KeySpellsWrongFalsely : Prop := keySpellsRow.holds Tryd.pinned (OpenSpec.ofChange keySpellsWrong)

/-- 'partitalaw03.KeyReads': WHATEVER THE INPUT: true; the input reads as it did. -/
def keyReadsSpec : ChangeSpec := { name := "keyReads", fn := fun _ => fun
  | [d] => { results := [.lit (.bool true)], args := [d] }
  | _ => none }
def keyReadsRow : OpenClaim := { program := "ytahcbgngdpjhkaadoor", sum := "dd5215ad8f0bde28262a21aff2615a3f35ea4c723140cba78980918a4cc97826", func := "partita/partitalaw03.KeyReads", spec := "keyReads", inPlace := ["internal/abi.NoEscape", "internal/bytealg.MakeNoZero"], unfollowed := true, recurses := true, named := ["partita/key.letters"], apart := false, laid := [("partita/key.letters", laid_partita_key_letters)] }
def KeyReadsSaid : Prop := keyReadsRow.holds Tryd.pinned (OpenSpec.ofChange keyReadsSpec)

/-- ITS FALSE NEIGHBOUR: 'it returns false'. Refute it at one input. -/
def keyReadsWrong : ChangeSpec := { name := "keyReads", fn := fun _ => fun
  | [d] => { results := [.lit (.bool false)], args := [d] }
  | _ => none }
def KeyReadsWrongFalsely : Prop := keyReadsRow.holds Tryd.pinned (OpenSpec.ofChange keyReadsWrong)

/-- 'partitalaw03.KeyBack': WHATEVER THE INPUT: true; the input reads as it did. -/
def keyBackSpec : ChangeSpec := { name := "keyBack", fn := fun _ => fun
  | [d] => { results := [.lit (.bool true)], args := [d] }
  | _ => none }
def keyBackRow : OpenClaim := { program := "ytahcbgngdpjhkaadoor", sum := "dd5215ad8f0bde28262a21aff2615a3f35ea4c723140cba78980918a4cc97826", func := "partita/partitalaw03.KeyBack", spec := "keyBack", inPlace := ["internal/abi.NoEscape", "internal/bytealg.MakeNoZero"], unfollowed := true, recurses := true, named := ["partita/key.letters"], apart := false, laid := [("partita/key.letters", laid_partita_key_letters)] }
def KeyBackSaid : Prop := keyBackRow.holds Tryd.pinned (OpenSpec.ofChange keyBackSpec)

/-- ITS FALSE NEIGHBOUR: 'it returns false'. Refute it at one input. -/
def keyBackWrong : ChangeSpec := { name := "keyBack", fn := fun _ => fun
  | [d] => { results := [.lit (.bool false)], args := [d] }
  | _ => none }
def KeyBackWrongFalsely : Prop := keyBackRow.holds Tryd.pinned (OpenSpec.ofChange keyBackWrong)

/-- 'partitalaw03.KeyMoveBack': WHATEVER THE INPUT: true; the input reads as it did. -/
def keyMoveBackSpec : ChangeSpec := { name := "keyMoveBack", fn := fun _ => fun
  | [d1, d2, d3] => { results := [.lit (.bool true)], args := [d1, d2, d3] }
  | _ => none }
def keyMoveBackRow : OpenClaim := { program := "ytahcbgngdpjhkaadoor", sum := "dd5215ad8f0bde28262a21aff2615a3f35ea4c723140cba78980918a4cc97826", func := "partita/partitalaw03.KeyMoveBack", spec := "keyMoveBack", inPlace := ["internal/abi.NoEscape", "internal/bytealg.MakeNoZero"], unfollowed := true, recurses := true, named := ["partita/key.letters"], apart := false, laid := [("partita/key.letters", laid_partita_key_letters)] }
def KeyMoveBackSaid : Prop := keyMoveBackRow.holds Tryd.pinned (OpenSpec.ofChange keyMoveBackSpec)

/-- ITS FALSE NEIGHBOUR: 'it returns false'. Refute it at one input. -/
def keyMoveBackWrong : ChangeSpec := { name := "keyMoveBack", fn := fun _ => fun
  | [d1, d2, d3] => { results := [.lit (.bool false)], args := [d1, d2, d3] }
  | _ => none }
def KeyMoveBackWrongFalsely : Prop := keyMoveBackRow.holds Tryd.pinned (OpenSpec.ofChange keyMoveBackWrong)

/-- 'partitalaw03.KeySpelled': WHATEVER THE INPUT: true; the input reads as it did. -/
def keySpelledSpec : ChangeSpec := { name := "keySpelled", fn := fun _ => fun
  | [d1, d2] => { results := [.lit (.bool true)], args := [d1, d2] }
  | _ => none }
def keySpelledRow : OpenClaim := { program := "ytahcbgngdpjhkaadoor", sum := "dd5215ad8f0bde28262a21aff2615a3f35ea4c723140cba78980918a4cc97826", func := "partita/partitalaw03.KeySpelled", spec := "keySpelled", inPlace := ["internal/abi.NoEscape", "internal/bytealg.MakeNoZero"], unfollowed := true, recurses := true, named := ["partita/key.letters", "partita/pitch.halves"], apart := false, laid := [("partita/pitch.halves", laid_partita_pitch_halves), ("partita/key.letters", laid_partita_key_letters)] }
def KeySpelledSaid : Prop := keySpelledRow.holds Tryd.pinned (OpenSpec.ofChange keySpelledSpec)

/-- ITS FALSE NEIGHBOUR: 'it returns false'. Refute it at one input. -/
def keySpelledWrong : ChangeSpec := { name := "keySpelled", fn := fun _ => fun
  | [d1, d2] => { results := [.lit (.bool false)], args := [d1, d2] }
  | _ => none }
def KeySpelledWrongFalsely : Prop := keySpelledRow.holds Tryd.pinned (OpenSpec.ofChange keySpelledWrong)

/-- 'partitalaw03.KeyScaleSpells': WHATEVER THE INPUT: true; the input reads as it did. -/
def keyScaleSpellsSpec : ChangeSpec := { name := "keyScaleSpells", fn := fun _ => fun
  | [d] => { results := [.lit (.bool true)], args := [d] }
  | _ => none }
def keyScaleSpellsRow : OpenClaim := { program := "ytahcbgngdpjhkaadoor", sum := "dd5215ad8f0bde28262a21aff2615a3f35ea4c723140cba78980918a4cc97826", func := "partita/partitalaw03.KeyScaleSpells", spec := "keyScaleSpells", inPlace := ["internal/abi.NoEscape", "internal/bytealg.MakeNoZero"], unfollowed := true, recurses := true, named := ["partita/key.letters", "partita/pitch.halves"], apart := false, laid := [("partita/pitch.halves", laid_partita_pitch_halves), ("partita/key.letters", laid_partita_key_letters)] }
def KeyScaleSpellsSaid : Prop := keyScaleSpellsRow.holds Tryd.pinned (OpenSpec.ofChange keyScaleSpellsSpec)

/-- ITS FALSE NEIGHBOUR: 'it returns false'. Refute it at one input. -/
def keyScaleSpellsWrong : ChangeSpec := { name := "keyScaleSpells", fn := fun _ => fun
  | [d] => { results := [.lit (.bool false)], args := [d] }
  | _ => none }
def KeyScaleSpellsWrongFalsely : Prop := keyScaleSpellsRow.holds Tryd.pinned (OpenSpec.ofChange keyScaleSpellsWrong)

/-- 'partitalaw03.KeySignature': WHATEVER THE INPUT: true; the input reads as it did. -/
def keySignatureSpec : ChangeSpec := { name := "keySignature", fn := fun _ => fun
  | [d] => { results := [.lit (.bool true)], args := [d] }
  | _ => none }
def keySignatureRow : OpenClaim := { program := "ytahcbgngdpjhkaadoor", sum := "dd5215ad8f0bde28262a21aff2615a3f35ea4c723140cba78980918a4cc97826", func := "partita/partitalaw03.KeySignature", spec := "keySignature", inPlace := ["internal/abi.NoEscape", "internal/bytealg.MakeNoZero"], unfollowed := true, recurses := true, named := ["partita/key.letters"], apart := false, laid := [("partita/key.letters", laid_partita_key_letters)] }
def KeySignatureSaid : Prop := keySignatureRow.holds Tryd.pinned (OpenSpec.ofChange keySignatureSpec)

/-- ITS FALSE NEIGHBOUR: 'it returns false'. Refute it at one input. -/
def keySignatureWrong : ChangeSpec := { name := "keySignature", fn := fun _ => fun
  | [d] => { results := [.lit (.bool false)], args := [d] }
  | _ => none }
def KeySignatureWrongFalsely : Prop := keySignatureRow.holds Tryd.pinned (OpenSpec.ofChange keySignatureWrong)

/-- 'partitalaw03.KeyRelative': WHATEVER THE INPUT: true; the input reads as it did. -/
def keyRelativeSpec : ChangeSpec := { name := "keyRelative", fn := fun _ => fun
  | [d1, d2] => { results := [.lit (.bool true)], args := [d1, d2] }
  | _ => none }
def keyRelativeRow : OpenClaim := { program := "ytahcbgngdpjhkaadoor", sum := "dd5215ad8f0bde28262a21aff2615a3f35ea4c723140cba78980918a4cc97826", func := "partita/partitalaw03.KeyRelative", spec := "keyRelative", inPlace := ["internal/abi.NoEscape", "internal/bytealg.MakeNoZero"], unfollowed := true, recurses := true, named := ["partita/key.letters"], apart := false, laid := [("partita/key.letters", laid_partita_key_letters)] }
def KeyRelativeSaid : Prop := keyRelativeRow.holds Tryd.pinned (OpenSpec.ofChange keyRelativeSpec)

/-- ITS FALSE NEIGHBOUR: 'it returns false'. Refute it at one input. -/
def keyRelativeWrong : ChangeSpec := { name := "keyRelative", fn := fun _ => fun
  | [d1, d2] => { results := [.lit (.bool false)], args := [d1, d2] }
  | _ => none }
def KeyRelativeWrongFalsely : Prop := keyRelativeRow.holds Tryd.pinned (OpenSpec.ofChange keyRelativeWrong)

/-- 'partitalaw03.KeyFifth': WHATEVER THE INPUT: true; the input reads as it did. -/
def keyFifthSpec : ChangeSpec := { name := "keyFifth", fn := fun _ => fun
  | [d] => { results := [.lit (.bool true)], args := [d] }
  | _ => none }
def keyFifthRow : OpenClaim := { program := "ytahcbgngdpjhkaadoor", sum := "dd5215ad8f0bde28262a21aff2615a3f35ea4c723140cba78980918a4cc97826", func := "partita/partitalaw03.KeyFifth", spec := "keyFifth", inPlace := ["internal/abi.NoEscape", "internal/bytealg.MakeNoZero"], unfollowed := true, recurses := true, named := ["partita/key.letters"], apart := false, laid := [("partita/key.letters", laid_partita_key_letters)] }
def KeyFifthSaid : Prop := keyFifthRow.holds Tryd.pinned (OpenSpec.ofChange keyFifthSpec)

/-- ITS FALSE NEIGHBOUR: 'it returns false'. Refute it at one input. -/
def keyFifthWrong : ChangeSpec := { name := "keyFifth", fn := fun _ => fun
  | [d] => { results := [.lit (.bool false)], args := [d] }
  | _ => none }
def KeyFifthWrongFalsely : Prop := keyFifthRow.holds Tryd.pinned (OpenSpec.ofChange keyFifthWrong)

/-- 'partitalaw03.KeyTonics': WHATEVER THE INPUT: true; the input reads as it did. -/
def keyTonicsSpec : ChangeSpec := { name := "keyTonics", fn := fun _ => fun
  | [d1, d2] => { results := [.lit (.bool true)], args := [d1, d2] }
  | _ => none }
def keyTonicsRow : OpenClaim := { program := "ytahcbgngdpjhkaadoor", sum := "dd5215ad8f0bde28262a21aff2615a3f35ea4c723140cba78980918a4cc97826", func := "partita/partitalaw03.KeyTonics", spec := "keyTonics", inPlace := ["internal/abi.NoEscape", "internal/bytealg.MakeNoZero"], unfollowed := true, recurses := true, named := ["partita/key.letters", "partita/pitch.halves"], apart := false, laid := [("partita/pitch.halves", laid_partita_pitch_halves), ("partita/key.letters", laid_partita_key_letters)] }
def KeyTonicsSaid : Prop := keyTonicsRow.holds Tryd.pinned (OpenSpec.ofChange keyTonicsSpec)

/-- ITS FALSE NEIGHBOUR: 'it returns false'. Refute it at one input. -/
def keyTonicsWrong : ChangeSpec := { name := "keyTonics", fn := fun _ => fun
  | [d1, d2] => { results := [.lit (.bool false)], args := [d1, d2] }
  | _ => none }
def KeyTonicsWrongFalsely : Prop := keyTonicsRow.holds Tryd.pinned (OpenSpec.ofChange keyTonicsWrong)

/- THE SECOND FORM. 'bulk': how many values and letters a reading holds, each counted each time it is reached (what is shared counts as often as it is met; a slice's spare places count too). A statement '..UptoSaid' is the law's where the arguments, and the package variables that the reading takes, are together of bulk at most 1048576: NARROWER than '..Said'. Prove '..Said' where nothing that the law and all that it calls make is longer than what came in: it says more and counts as full. Else prove '..UptoSaid'. A law counts once. -/
mutual
def uptoBulk {H : Type} : DataW H → Nat
  | .lit (.string bytes) => bytes.length + 1
  | .lit _ => 1
  | .nil => 1
  | .ptr d => uptoBulk d + 1
  | .slice elems spare => uptoBulkAll elems + uptoBulkAll spare + 1
  | .agg parts => uptoBulkAll parts + 1
  | .iface _ d => uptoBulk d + 1
  | .map entries => uptoBulkEntries entries + 1
  | .held _ => 1
def uptoBulkAll {H : Type} : List (DataW H) → Nat
  | [] => 0
  | d :: r => uptoBulk d + uptoBulkAll r
def uptoBulkEntries {H : Type} : List (Lit × DataW H) → Nat
  | [] => 0
  | x :: r => uptoBulkEntry x + uptoBulkEntries r
def uptoBulkEntry {H : Type} : Lit × DataW H → Nat
  | (.string bytes, d) => bytes.length + uptoBulk d + 1
  | (_, d) => uptoBulk d + 1
 end
def uptoSmall : (H : Type) → List (DataW H) → Bool := fun _ ds => decide (uptoBulkAll ds ≤ 1048576)
def OpenSpec.upto (s : _root_.Go.ChangeSpec) : _root_.Go.OpenSpec := { _root_.Go.OpenSpec.ofChange s with cond := some uptoSmall }

/-- 'partitalaw03.KeyRights', WHERE WHAT IT READS IS OF BULK AT MOST 1048576: true; the input reads as it did. -/
def keyRightsUptoRow : OpenClaim := { program := "ytahcbgngdpjhkaadoor", sum := "dd5215ad8f0bde28262a21aff2615a3f35ea4c723140cba78980918a4cc97826", func := "partita/partitalaw03.KeyRights", spec := "keyRights", inPlace := ["internal/abi.NoEscape", "internal/bytealg.MakeNoZero"], unfollowed := true, recurses := true, named := ["partita/key.letters"], apart := false, laid := [("partita/key.letters", laid_partita_key_letters)], narrowed := true }
def KeyRightsUptoSaid : Prop := keyRightsUptoRow.holds Tryd.pinned (OpenSpec.upto keyRightsSpec)

/-- 'partitalaw03.KeyAlters', WHERE WHAT IT READS IS OF BULK AT MOST 1048576: true; the input reads as it did. -/
def keyAltersUptoRow : OpenClaim := { program := "ytahcbgngdpjhkaadoor", sum := "dd5215ad8f0bde28262a21aff2615a3f35ea4c723140cba78980918a4cc97826", func := "partita/partitalaw03.KeyAlters", spec := "keyAlters", inPlace := ["internal/abi.NoEscape", "internal/bytealg.MakeNoZero"], unfollowed := true, recurses := true, named := ["partita/key.letters"], apart := false, laid := [("partita/key.letters", laid_partita_key_letters)], narrowed := true }
def KeyAltersUptoSaid : Prop := keyAltersUptoRow.holds Tryd.pinned (OpenSpec.upto keyAltersSpec)

/-- 'partitalaw03.KeyScales', WHERE WHAT IT READS IS OF BULK AT MOST 1048576: true; the input reads as it did. -/
def keyScalesUptoRow : OpenClaim := { program := "ytahcbgngdpjhkaadoor", sum := "dd5215ad8f0bde28262a21aff2615a3f35ea4c723140cba78980918a4cc97826", func := "partita/partitalaw03.KeyScales", spec := "keyScales", inPlace := ["internal/abi.NoEscape", "internal/bytealg.MakeNoZero"], unfollowed := true, recurses := true, named := ["partita/key.letters"], apart := false, laid := [("partita/key.letters", laid_partita_key_letters)], narrowed := true }
def KeyScalesUptoSaid : Prop := keyScalesUptoRow.holds Tryd.pinned (OpenSpec.upto keyScalesSpec)

/-- 'partitalaw03.KeyMoves', WHERE WHAT IT READS IS OF BULK AT MOST 1048576: true; the input reads as it did. -/
def keyMovesUptoRow : OpenClaim := { program := "ytahcbgngdpjhkaadoor", sum := "dd5215ad8f0bde28262a21aff2615a3f35ea4c723140cba78980918a4cc97826", func := "partita/partitalaw03.KeyMoves", spec := "keyMoves", inPlace := ["internal/abi.NoEscape", "internal/bytealg.MakeNoZero"], unfollowed := true, recurses := true, named := ["partita/key.letters"], apart := false, laid := [("partita/key.letters", laid_partita_key_letters)], narrowed := true }
def KeyMovesUptoSaid : Prop := keyMovesUptoRow.holds Tryd.pinned (OpenSpec.upto keyMovesSpec)

/-- 'partitalaw03.KeySpells', WHERE WHAT IT READS IS OF BULK AT MOST 1048576: true; the input reads as it did. -/
def keySpellsUptoRow : OpenClaim := { program := "ytahcbgngdpjhkaadoor", sum := "dd5215ad8f0bde28262a21aff2615a3f35ea4c723140cba78980918a4cc97826", func := "partita/partitalaw03.KeySpells", spec := "keySpells", inPlace := ["internal/abi.NoEscape", "internal/bytealg.MakeNoZero"], unfollowed := true, recurses := true, named := ["partita/key.letters", "partita/pitch.halves"], apart := false, laid := [("partita/pitch.halves", laid_partita_pitch_halves), ("partita/key.letters", laid_partita_key_letters)], narrowed := true }
def KeySpellsUptoSaid : Prop := keySpellsUptoRow.holds Tryd.pinned (OpenSpec.upto keySpellsSpec)

/-- 'partitalaw03.KeyReads', WHERE WHAT IT READS IS OF BULK AT MOST 1048576: true; the input reads as it did. -/
def keyReadsUptoRow : OpenClaim := { program := "ytahcbgngdpjhkaadoor", sum := "dd5215ad8f0bde28262a21aff2615a3f35ea4c723140cba78980918a4cc97826", func := "partita/partitalaw03.KeyReads", spec := "keyReads", inPlace := ["internal/abi.NoEscape", "internal/bytealg.MakeNoZero"], unfollowed := true, recurses := true, named := ["partita/key.letters"], apart := false, laid := [("partita/key.letters", laid_partita_key_letters)], narrowed := true }
def KeyReadsUptoSaid : Prop := keyReadsUptoRow.holds Tryd.pinned (OpenSpec.upto keyReadsSpec)

/-- 'partitalaw03.KeyBack', WHERE WHAT IT READS IS OF BULK AT MOST 1048576: true; the input reads as it did. -/
def keyBackUptoRow : OpenClaim := { program := "ytahcbgngdpjhkaadoor", sum := "dd5215ad8f0bde28262a21aff2615a3f35ea4c723140cba78980918a4cc97826", func := "partita/partitalaw03.KeyBack", spec := "keyBack", inPlace := ["internal/abi.NoEscape", "internal/bytealg.MakeNoZero"], unfollowed := true, recurses := true, named := ["partita/key.letters"], apart := false, laid := [("partita/key.letters", laid_partita_key_letters)], narrowed := true }
def KeyBackUptoSaid : Prop := keyBackUptoRow.holds Tryd.pinned (OpenSpec.upto keyBackSpec)

/-- 'partitalaw03.KeyMoveBack', WHERE WHAT IT READS IS OF BULK AT MOST 1048576: true; the input reads as it did. -/
def keyMoveBackUptoRow : OpenClaim := { program := "ytahcbgngdpjhkaadoor", sum := "dd5215ad8f0bde28262a21aff2615a3f35ea4c723140cba78980918a4cc97826", func := "partita/partitalaw03.KeyMoveBack", spec := "keyMoveBack", inPlace := ["internal/abi.NoEscape", "internal/bytealg.MakeNoZero"], unfollowed := true, recurses := true, named := ["partita/key.letters"], apart := false, laid := [("partita/key.letters", laid_partita_key_letters)], narrowed := true }
def KeyMoveBackUptoSaid : Prop := keyMoveBackUptoRow.holds Tryd.pinned (OpenSpec.upto keyMoveBackSpec)

/-- 'partitalaw03.KeySpelled', WHERE WHAT IT READS IS OF BULK AT MOST 1048576: true; the input reads as it did. -/
def keySpelledUptoRow : OpenClaim := { program := "ytahcbgngdpjhkaadoor", sum := "dd5215ad8f0bde28262a21aff2615a3f35ea4c723140cba78980918a4cc97826", func := "partita/partitalaw03.KeySpelled", spec := "keySpelled", inPlace := ["internal/abi.NoEscape", "internal/bytealg.MakeNoZero"], unfollowed := true, recurses := true, named := ["partita/key.letters", "partita/pitch.halves"], apart := false, laid := [("partita/pitch.halves", laid_partita_pitch_halves), ("partita/key.letters", laid_partita_key_letters)], narrowed := true }
def KeySpelledUptoSaid : Prop := keySpelledUptoRow.holds Tryd.pinned (OpenSpec.upto keySpelledSpec)

/-- 'partitalaw03.KeyScaleSpells', WHERE WHAT IT READS IS OF BULK AT MOST 1048576: true; the input reads as it did. -/
def keyScaleSpellsUptoRow : OpenClaim := { program := "ytahcbgngdpjhkaadoor", sum := "dd5215ad8f0bde28262a21aff2615a3f35ea4c723140cba78980918a4cc97826", func := "partita/partitalaw03.KeyScaleSpells", spec := "keyScaleSpells", inPlace := ["internal/abi.NoEscape", "internal/bytealg.MakeNoZero"], unfollowed := true, recurses := true, named := ["partita/key.letters", "partita/pitch.halves"], apart := false, laid := [("partita/pitch.halves", laid_partita_pitch_halves), ("partita/key.letters", laid_partita_key_letters)], narrowed := true }
def KeyScaleSpellsUptoSaid : Prop := keyScaleSpellsUptoRow.holds Tryd.pinned (OpenSpec.upto keyScaleSpellsSpec)

/-- 'partitalaw03.KeySignature', WHERE WHAT IT READS IS OF BULK AT MOST 1048576: true; the input reads as it did. -/
def keySignatureUptoRow : OpenClaim := { program := "ytahcbgngdpjhkaadoor", sum := "dd5215ad8f0bde28262a21aff2615a3f35ea4c723140cba78980918a4cc97826", func := "partita/partitalaw03.KeySignature", spec := "keySignature", inPlace := ["internal/abi.NoEscape", "internal/bytealg.MakeNoZero"], unfollowed := true, recurses := true, named := ["partita/key.letters"], apart := false, laid := [("partita/key.letters", laid_partita_key_letters)], narrowed := true }
def KeySignatureUptoSaid : Prop := keySignatureUptoRow.holds Tryd.pinned (OpenSpec.upto keySignatureSpec)

/-- 'partitalaw03.KeyRelative', WHERE WHAT IT READS IS OF BULK AT MOST 1048576: true; the input reads as it did. -/
def keyRelativeUptoRow : OpenClaim := { program := "ytahcbgngdpjhkaadoor", sum := "dd5215ad8f0bde28262a21aff2615a3f35ea4c723140cba78980918a4cc97826", func := "partita/partitalaw03.KeyRelative", spec := "keyRelative", inPlace := ["internal/abi.NoEscape", "internal/bytealg.MakeNoZero"], unfollowed := true, recurses := true, named := ["partita/key.letters"], apart := false, laid := [("partita/key.letters", laid_partita_key_letters)], narrowed := true }
def KeyRelativeUptoSaid : Prop := keyRelativeUptoRow.holds Tryd.pinned (OpenSpec.upto keyRelativeSpec)

/-- 'partitalaw03.KeyFifth', WHERE WHAT IT READS IS OF BULK AT MOST 1048576: true; the input reads as it did. -/
def keyFifthUptoRow : OpenClaim := { program := "ytahcbgngdpjhkaadoor", sum := "dd5215ad8f0bde28262a21aff2615a3f35ea4c723140cba78980918a4cc97826", func := "partita/partitalaw03.KeyFifth", spec := "keyFifth", inPlace := ["internal/abi.NoEscape", "internal/bytealg.MakeNoZero"], unfollowed := true, recurses := true, named := ["partita/key.letters"], apart := false, laid := [("partita/key.letters", laid_partita_key_letters)], narrowed := true }
def KeyFifthUptoSaid : Prop := keyFifthUptoRow.holds Tryd.pinned (OpenSpec.upto keyFifthSpec)

/-- 'partitalaw03.KeyTonics', WHERE WHAT IT READS IS OF BULK AT MOST 1048576: true; the input reads as it did. -/
def keyTonicsUptoRow : OpenClaim := { program := "ytahcbgngdpjhkaadoor", sum := "dd5215ad8f0bde28262a21aff2615a3f35ea4c723140cba78980918a4cc97826", func := "partita/partitalaw03.KeyTonics", spec := "keyTonics", inPlace := ["internal/abi.NoEscape", "internal/bytealg.MakeNoZero"], unfollowed := true, recurses := true, named := ["partita/key.letters", "partita/pitch.halves"], apart := false, laid := [("partita/pitch.halves", laid_partita_pitch_halves), ("partita/key.letters", laid_partita_key_letters)], narrowed := true }
def KeyTonicsUptoSaid : Prop := keyTonicsUptoRow.holds Tryd.pinned (OpenSpec.upto keyTonicsSpec)

end Rows
end Go.Proofs.YtahcbgngdpjhkaaDoor
