/-
  NARROWER THAN 'FOR EVERY INPUT', by the rows' own cells (each row's printed sentence says how): EventRights: laid · EventSames: laid · EventUps: laid · EventChords: laid · EventUpBack: laid · EventUpEach: laid · EventChordOne: laid · EventChordTurn: laid · EventChordAll: laid · EventChordUp: laid · EventLengths: laid · EventWords: laid.
  DERIVED. THE GIVEN ROWS OF THIS SEAT. 12 by the template 'for every input the law returns true; each argument reads behind the call as it read before'; 0 by the template 'total and deterministic' (their statements: YtoiankbopjaamaaDoorTotals.lean).
  GIVEN WITH THE SEED: the statements are not yours to turn. If you find one false, say at which input.
  Laid BY PROGRAM, IN A SANDBOX (cutbox-rows.mjs): the forced cells as the released guide's own fill.sh prints them over the translation ffe972fd21ae9ebb… (all of the seat's roots in one cut). By AI agents, Wed Nov 11 2026. No macro, syntax, notation, axiom, sorry.
-/
import Derived.Test.YtoiankbopjaamaaDoorChecked
import GoSem.PinnedTables
import GoSem.Claim
import GoSem.ClaimJoined
import GoSem.ClaimMapViews
import Derived.JoinedTies
import Derived.KernelRfl
namespace Go.Proofs.YtoiankbopjaamaaDoor
/- THE CELL 'sum', in the pinned program and in every row, IS THE sha256 OF THE DUMP (.gsa) THAT YtoiankbopjaamaaDoorProg.lean LOADS. Nothing in Lean hashes anything: it is a label: what it is worth is what the hold of that sum in a sandbox is worth. -/
noncomputable def Tryd.pinned : Pinned := { name := "ytoiankbopjaamaadoor", sum := "ffe972fd21ae9ebb3590829fd087ee63ef91f1cd00c82842da5e2cb28bdf0303", checked := Tryd.checked }
namespace Rows
def none {H : Type} : Left H := { results := [], args := [] }

/- WHAT THE LISTED PACKAGE-LEVEL VARIABLES READ AS WHEN THE CALL BEGINS. Each datum BY PROGRAM (the guide's laid-datum.mjs) off the statement by which the dump's own 'gosem.cut.vars' lays the variable. In a bare row this is a premise. The card (YtoiankbopjaamaaDoorCards.lean) ties it to the program's text. -/
def laid_unicode_utf8_acceptRanges {H : Type} : DataW H := .agg [.agg [.lit (.int .u8 128), .lit (.int .u8 191)], .agg [.lit (.int .u8 160), .lit (.int .u8 191)], .agg [.lit (.int .u8 128), .lit (.int .u8 159)], .agg [.lit (.int .u8 144), .lit (.int .u8 191)], .agg [.lit (.int .u8 128), .lit (.int .u8 143)], .agg [.lit (.int .u8 0), .lit (.int .u8 0)], .agg [.lit (.int .u8 0), .lit (.int .u8 0)], .agg [.lit (.int .u8 0), .lit (.int .u8 0)], .agg [.lit (.int .u8 0), .lit (.int .u8 0)], .agg [.lit (.int .u8 0), .lit (.int .u8 0)], .agg [.lit (.int .u8 0), .lit (.int .u8 0)], .agg [.lit (.int .u8 0), .lit (.int .u8 0)], .agg [.lit (.int .u8 0), .lit (.int .u8 0)], .agg [.lit (.int .u8 0), .lit (.int .u8 0)], .agg [.lit (.int .u8 0), .lit (.int .u8 0)], .agg [.lit (.int .u8 0), .lit (.int .u8 0)]]
def laid_partita_pitch_halves {H : Type} : DataW H := .agg [.lit (.int .i64 0), .lit (.int .i64 2), .lit (.int .i64 4), .lit (.int .i64 5), .lit (.int .i64 7), .lit (.int .i64 9), .lit (.int .i64 11)]
def laid_partita_value_bases {H : Type} : DataW H := .agg [.lit (.int .i64 64), .lit (.int .i64 32), .lit (.int .i64 16), .lit (.int .i64 8), .lit (.int .i64 4), .lit (.int .i64 2), .lit (.int .i64 1)]
def laid_partita_value_dotted {H : Type} : DataW H := .agg [.lit (.int .i64 4), .lit (.int .i64 6), .lit (.int .i64 7)]
/-- One of Go's own tables, pinned by name: the form's constant. -/
def laid_unicode_utf8_first : DataW Unit := Go.Pinned.utf8First

/-- 'partitalaw06.EventRights': WHATEVER THE INPUT: true; the input reads as it did. -/
def eventRightsSpec : ChangeSpec := { name := "eventRights", fn := fun _ => fun
  | [d] => { results := [.lit (.bool true)], args := [d] }
  | _ => none }
def eventRightsRow : OpenClaim := { program := "ytoiankbopjaamaadoor", sum := "ffe972fd21ae9ebb3590829fd087ee63ef91f1cd00c82842da5e2cb28bdf0303", func := "partita/partitalaw06.EventRights", spec := "eventRights", unfollowed := true, recurses := true, named := ["unicode/utf8.first", "unicode/utf8.acceptRanges", "partita/pitch.halves", "partita/value.bases", "partita/value.dotted"], plainKeys := false, apart := false, laid := [("unicode/utf8.acceptRanges", laid_unicode_utf8_acceptRanges), ("partita/pitch.halves", laid_partita_pitch_halves), ("partita/value.bases", laid_partita_value_bases), ("partita/value.dotted", laid_partita_value_dotted), ("unicode/utf8.first", laid_unicode_utf8_first)] }
def EventRightsSaid : Prop := eventRightsRow.holds Tryd.pinned (OpenSpec.ofChange eventRightsSpec)

/-- ITS FALSE NEIGHBOUR: 'it returns false'. Refute it at one input. -/
def eventRightsWrong : ChangeSpec := { name := "eventRights", fn := fun _ => fun
  | [d] => { results := [.lit (.bool false)], args := [d] }
  | _ => none }
def EventRightsWrongFalsely : Prop := eventRightsRow.holds Tryd.pinned (OpenSpec.ofChange eventRightsWrong)

/-- 'partitalaw06.EventSames': WHATEVER THE INPUT: true; the input reads as it did. -/
def eventSamesSpec : ChangeSpec := { name := "eventSames", fn := fun _ => fun
  | [d1, d2] => { results := [.lit (.bool true)], args := [d1, d2] }
  | _ => none }
def eventSamesRow : OpenClaim := { program := "ytoiankbopjaamaadoor", sum := "ffe972fd21ae9ebb3590829fd087ee63ef91f1cd00c82842da5e2cb28bdf0303", func := "partita/partitalaw06.EventSames", spec := "eventSames", unfollowed := true, recurses := true, named := ["unicode/utf8.first", "unicode/utf8.acceptRanges", "partita/pitch.halves", "partita/value.bases", "partita/value.dotted"], plainKeys := false, apart := false, laid := [("unicode/utf8.acceptRanges", laid_unicode_utf8_acceptRanges), ("partita/pitch.halves", laid_partita_pitch_halves), ("partita/value.bases", laid_partita_value_bases), ("partita/value.dotted", laid_partita_value_dotted), ("unicode/utf8.first", laid_unicode_utf8_first)] }
def EventSamesSaid : Prop := eventSamesRow.holds Tryd.pinned (OpenSpec.ofChange eventSamesSpec)

/-- ITS FALSE NEIGHBOUR: 'it returns false'. Refute it at one input. -/
def eventSamesWrong : ChangeSpec := { name := "eventSames", fn := fun _ => fun
  | [d1, d2] => { results := [.lit (.bool false)], args := [d1, d2] }
  | _ => none }
def EventSamesWrongFalsely : Prop := eventSamesRow.holds Tryd.pinned (OpenSpec.ofChange eventSamesWrong)

/-- 'partitalaw06.EventUps': WHATEVER THE INPUT: true; the input reads as it did. -/
def eventUpsSpec : ChangeSpec := { name := "eventUps", fn := fun _ => fun
  | [d1, d2] => { results := [.lit (.bool true)], args := [d1, d2] }
  | _ => none }
def eventUpsRow : OpenClaim := { program := "ytoiankbopjaamaadoor", sum := "ffe972fd21ae9ebb3590829fd087ee63ef91f1cd00c82842da5e2cb28bdf0303", func := "partita/partitalaw06.EventUps", spec := "eventUps", unfollowed := true, recurses := true, named := ["unicode/utf8.first", "unicode/utf8.acceptRanges", "partita/pitch.halves", "partita/value.bases", "partita/value.dotted"], plainKeys := false, apart := false, laid := [("unicode/utf8.acceptRanges", laid_unicode_utf8_acceptRanges), ("partita/pitch.halves", laid_partita_pitch_halves), ("partita/value.bases", laid_partita_value_bases), ("partita/value.dotted", laid_partita_value_dotted), ("unicode/utf8.first", laid_unicode_utf8_first)] }
def EventUpsSaid : Prop := eventUpsRow.holds Tryd.pinned (OpenSpec.ofChange eventUpsSpec)

/-- ITS FALSE NEIGHBOUR: 'it returns false'. Refute it at one input. -/
def eventUpsWrong : ChangeSpec := { name := "eventUps", fn := fun _ => fun
  | [d1, d2] => { results := [.lit (.bool false)], args := [d1, d2] }
  | _ => none }
def EventUpsWrongFalsely : Prop := eventUpsRow.holds Tryd.pinned (OpenSpec.ofChange eventUpsWrong)

/-- 'partitalaw06.EventChords': WHATEVER THE INPUT: true; the input reads as it did. -/
def eventChordsSpec : ChangeSpec := { name := "eventChords", fn := fun _ => fun
  | [d] => { results := [.lit (.bool true)], args := [d] }
  | _ => none }
def eventChordsRow : OpenClaim := { program := "ytoiankbopjaamaadoor", sum := "ffe972fd21ae9ebb3590829fd087ee63ef91f1cd00c82842da5e2cb28bdf0303", func := "partita/partitalaw06.EventChords", spec := "eventChords", unfollowed := true, recurses := true, named := ["unicode/utf8.first", "unicode/utf8.acceptRanges", "partita/pitch.halves", "partita/value.bases", "partita/value.dotted"], plainKeys := false, apart := false, laid := [("unicode/utf8.acceptRanges", laid_unicode_utf8_acceptRanges), ("partita/pitch.halves", laid_partita_pitch_halves), ("partita/value.bases", laid_partita_value_bases), ("partita/value.dotted", laid_partita_value_dotted), ("unicode/utf8.first", laid_unicode_utf8_first)] }
def EventChordsSaid : Prop := eventChordsRow.holds Tryd.pinned (OpenSpec.ofChange eventChordsSpec)

/-- ITS FALSE NEIGHBOUR: 'it returns false'. Refute it at one input. -/
def eventChordsWrong : ChangeSpec := { name := "eventChords", fn := fun _ => fun
  | [d] => { results := [.lit (.bool false)], args := [d] }
  | _ => none }
def EventChordsWrongFalsely : Prop := eventChordsRow.holds Tryd.pinned (OpenSpec.ofChange eventChordsWrong)

/-- 'partitalaw06.EventUpBack': WHATEVER THE INPUT: true; the input reads as it did. -/
def eventUpBackSpec : ChangeSpec := { name := "eventUpBack", fn := fun _ => fun
  | [d1, d2] => { results := [.lit (.bool true)], args := [d1, d2] }
  | _ => none }
def eventUpBackRow : OpenClaim := { program := "ytoiankbopjaamaadoor", sum := "ffe972fd21ae9ebb3590829fd087ee63ef91f1cd00c82842da5e2cb28bdf0303", func := "partita/partitalaw06.EventUpBack", spec := "eventUpBack", unfollowed := true, recurses := true, named := ["unicode/utf8.first", "unicode/utf8.acceptRanges", "partita/pitch.halves", "partita/value.bases", "partita/value.dotted"], plainKeys := false, apart := false, laid := [("unicode/utf8.acceptRanges", laid_unicode_utf8_acceptRanges), ("partita/pitch.halves", laid_partita_pitch_halves), ("partita/value.bases", laid_partita_value_bases), ("partita/value.dotted", laid_partita_value_dotted), ("unicode/utf8.first", laid_unicode_utf8_first)] }
def EventUpBackSaid : Prop := eventUpBackRow.holds Tryd.pinned (OpenSpec.ofChange eventUpBackSpec)

/-- ITS FALSE NEIGHBOUR: 'it returns false'. Refute it at one input. -/
def eventUpBackWrong : ChangeSpec := { name := "eventUpBack", fn := fun _ => fun
  | [d1, d2] => { results := [.lit (.bool false)], args := [d1, d2] }
  | _ => none }
def EventUpBackWrongFalsely : Prop := eventUpBackRow.holds Tryd.pinned (OpenSpec.ofChange eventUpBackWrong)

/-- 'partitalaw06.EventUpEach': WHATEVER THE INPUT: true; the input reads as it did. -/
def eventUpEachSpec : ChangeSpec := { name := "eventUpEach", fn := fun _ => fun
  | [d1, d2, d3] => { results := [.lit (.bool true)], args := [d1, d2, d3] }
  | _ => none }
def eventUpEachRow : OpenClaim := { program := "ytoiankbopjaamaadoor", sum := "ffe972fd21ae9ebb3590829fd087ee63ef91f1cd00c82842da5e2cb28bdf0303", func := "partita/partitalaw06.EventUpEach", spec := "eventUpEach", unfollowed := true, recurses := true, named := ["unicode/utf8.first", "unicode/utf8.acceptRanges", "partita/pitch.halves", "partita/value.bases", "partita/value.dotted"], plainKeys := false, apart := false, laid := [("unicode/utf8.acceptRanges", laid_unicode_utf8_acceptRanges), ("partita/pitch.halves", laid_partita_pitch_halves), ("partita/value.bases", laid_partita_value_bases), ("partita/value.dotted", laid_partita_value_dotted), ("unicode/utf8.first", laid_unicode_utf8_first)] }
def EventUpEachSaid : Prop := eventUpEachRow.holds Tryd.pinned (OpenSpec.ofChange eventUpEachSpec)

/-- ITS FALSE NEIGHBOUR: 'it returns false'. Refute it at one input. -/
def eventUpEachWrong : ChangeSpec := { name := "eventUpEach", fn := fun _ => fun
  | [d1, d2, d3] => { results := [.lit (.bool false)], args := [d1, d2, d3] }
  | _ => none }
def EventUpEachWrongFalsely : Prop := eventUpEachRow.holds Tryd.pinned (OpenSpec.ofChange eventUpEachWrong)

/-- 'partitalaw06.EventChordOne': WHATEVER THE INPUT: true; the input reads as it did. -/
def eventChordOneSpec : ChangeSpec := { name := "eventChordOne", fn := fun _ => fun
  | [d] => { results := [.lit (.bool true)], args := [d] }
  | _ => none }
def eventChordOneRow : OpenClaim := { program := "ytoiankbopjaamaadoor", sum := "ffe972fd21ae9ebb3590829fd087ee63ef91f1cd00c82842da5e2cb28bdf0303", func := "partita/partitalaw06.EventChordOne", spec := "eventChordOne", unfollowed := true, recurses := true, named := ["unicode/utf8.first", "unicode/utf8.acceptRanges", "partita/pitch.halves", "partita/value.bases", "partita/value.dotted"], plainKeys := false, apart := false, laid := [("unicode/utf8.acceptRanges", laid_unicode_utf8_acceptRanges), ("partita/pitch.halves", laid_partita_pitch_halves), ("partita/value.bases", laid_partita_value_bases), ("partita/value.dotted", laid_partita_value_dotted), ("unicode/utf8.first", laid_unicode_utf8_first)] }
def EventChordOneSaid : Prop := eventChordOneRow.holds Tryd.pinned (OpenSpec.ofChange eventChordOneSpec)

/-- ITS FALSE NEIGHBOUR: 'it returns false'. Refute it at one input. -/
def eventChordOneWrong : ChangeSpec := { name := "eventChordOne", fn := fun _ => fun
  | [d] => { results := [.lit (.bool false)], args := [d] }
  | _ => none }
def EventChordOneWrongFalsely : Prop := eventChordOneRow.holds Tryd.pinned (OpenSpec.ofChange eventChordOneWrong)

/-- 'partitalaw06.EventChordTurn': WHATEVER THE INPUT: true; the input reads as it did. -/
def eventChordTurnSpec : ChangeSpec := { name := "eventChordTurn", fn := fun _ => fun
  | [d1, d2] => { results := [.lit (.bool true)], args := [d1, d2] }
  | _ => none }
def eventChordTurnRow : OpenClaim := { program := "ytoiankbopjaamaadoor", sum := "ffe972fd21ae9ebb3590829fd087ee63ef91f1cd00c82842da5e2cb28bdf0303", func := "partita/partitalaw06.EventChordTurn", spec := "eventChordTurn", unfollowed := true, recurses := true, named := ["unicode/utf8.first", "unicode/utf8.acceptRanges", "partita/pitch.halves", "partita/value.bases", "partita/value.dotted"], plainKeys := false, apart := false, laid := [("unicode/utf8.acceptRanges", laid_unicode_utf8_acceptRanges), ("partita/pitch.halves", laid_partita_pitch_halves), ("partita/value.bases", laid_partita_value_bases), ("partita/value.dotted", laid_partita_value_dotted), ("unicode/utf8.first", laid_unicode_utf8_first)] }
def EventChordTurnSaid : Prop := eventChordTurnRow.holds Tryd.pinned (OpenSpec.ofChange eventChordTurnSpec)

/-- ITS FALSE NEIGHBOUR: 'it returns false'. Refute it at one input. -/
def eventChordTurnWrong : ChangeSpec := { name := "eventChordTurn", fn := fun _ => fun
  | [d1, d2] => { results := [.lit (.bool false)], args := [d1, d2] }
  | _ => none }
def EventChordTurnWrongFalsely : Prop := eventChordTurnRow.holds Tryd.pinned (OpenSpec.ofChange eventChordTurnWrong)

/-- 'partitalaw06.EventChordAll': WHATEVER THE INPUT: true; the input reads as it did. -/
def eventChordAllSpec : ChangeSpec := { name := "eventChordAll", fn := fun _ => fun
  | [d1, d2] => { results := [.lit (.bool true)], args := [d1, d2] }
  | _ => none }
def eventChordAllRow : OpenClaim := { program := "ytoiankbopjaamaadoor", sum := "ffe972fd21ae9ebb3590829fd087ee63ef91f1cd00c82842da5e2cb28bdf0303", func := "partita/partitalaw06.EventChordAll", spec := "eventChordAll", unfollowed := true, recurses := true, named := ["unicode/utf8.first", "unicode/utf8.acceptRanges", "partita/pitch.halves", "partita/value.bases", "partita/value.dotted"], plainKeys := false, apart := false, laid := [("unicode/utf8.acceptRanges", laid_unicode_utf8_acceptRanges), ("partita/pitch.halves", laid_partita_pitch_halves), ("partita/value.bases", laid_partita_value_bases), ("partita/value.dotted", laid_partita_value_dotted), ("unicode/utf8.first", laid_unicode_utf8_first)] }
def EventChordAllSaid : Prop := eventChordAllRow.holds Tryd.pinned (OpenSpec.ofChange eventChordAllSpec)

/-- ITS FALSE NEIGHBOUR: 'it returns false'. Refute it at one input. -/
def eventChordAllWrong : ChangeSpec := { name := "eventChordAll", fn := fun _ => fun
  | [d1, d2] => { results := [.lit (.bool false)], args := [d1, d2] }
  | _ => none }
def EventChordAllWrongFalsely : Prop := eventChordAllRow.holds Tryd.pinned (OpenSpec.ofChange eventChordAllWrong)

/-- 'partitalaw06.EventChordUp': WHATEVER THE INPUT: true; the input reads as it did. -/
def eventChordUpSpec : ChangeSpec := { name := "eventChordUp", fn := fun _ => fun
  | [d1, d2] => { results := [.lit (.bool true)], args := [d1, d2] }
  | _ => none }
def eventChordUpRow : OpenClaim := { program := "ytoiankbopjaamaadoor", sum := "ffe972fd21ae9ebb3590829fd087ee63ef91f1cd00c82842da5e2cb28bdf0303", func := "partita/partitalaw06.EventChordUp", spec := "eventChordUp", unfollowed := true, recurses := true, named := ["unicode/utf8.first", "unicode/utf8.acceptRanges", "partita/pitch.halves", "partita/value.bases", "partita/value.dotted"], plainKeys := false, apart := false, laid := [("unicode/utf8.acceptRanges", laid_unicode_utf8_acceptRanges), ("partita/pitch.halves", laid_partita_pitch_halves), ("partita/value.bases", laid_partita_value_bases), ("partita/value.dotted", laid_partita_value_dotted), ("unicode/utf8.first", laid_unicode_utf8_first)] }
def EventChordUpSaid : Prop := eventChordUpRow.holds Tryd.pinned (OpenSpec.ofChange eventChordUpSpec)

/-- ITS FALSE NEIGHBOUR: 'it returns false'. Refute it at one input. -/
def eventChordUpWrong : ChangeSpec := { name := "eventChordUp", fn := fun _ => fun
  | [d1, d2] => { results := [.lit (.bool false)], args := [d1, d2] }
  | _ => none }
def EventChordUpWrongFalsely : Prop := eventChordUpRow.holds Tryd.pinned (OpenSpec.ofChange eventChordUpWrong)

/-- 'partitalaw06.EventLengths': WHATEVER THE INPUT: true; the input reads as it did. -/
def eventLengthsSpec : ChangeSpec := { name := "eventLengths", fn := fun _ => fun
  | [d1, d2] => { results := [.lit (.bool true)], args := [d1, d2] }
  | _ => none }
def eventLengthsRow : OpenClaim := { program := "ytoiankbopjaamaadoor", sum := "ffe972fd21ae9ebb3590829fd087ee63ef91f1cd00c82842da5e2cb28bdf0303", func := "partita/partitalaw06.EventLengths", spec := "eventLengths", unfollowed := true, recurses := true, named := ["unicode/utf8.first", "unicode/utf8.acceptRanges", "partita/pitch.halves", "partita/value.bases", "partita/value.dotted"], plainKeys := false, apart := false, laid := [("unicode/utf8.acceptRanges", laid_unicode_utf8_acceptRanges), ("partita/pitch.halves", laid_partita_pitch_halves), ("partita/value.bases", laid_partita_value_bases), ("partita/value.dotted", laid_partita_value_dotted), ("unicode/utf8.first", laid_unicode_utf8_first)] }
def EventLengthsSaid : Prop := eventLengthsRow.holds Tryd.pinned (OpenSpec.ofChange eventLengthsSpec)

/-- ITS FALSE NEIGHBOUR: 'it returns false'. Refute it at one input. -/
def eventLengthsWrong : ChangeSpec := { name := "eventLengths", fn := fun _ => fun
  | [d1, d2] => { results := [.lit (.bool false)], args := [d1, d2] }
  | _ => none }
def EventLengthsWrongFalsely : Prop := eventLengthsRow.holds Tryd.pinned (OpenSpec.ofChange eventLengthsWrong)

/-- 'partitalaw06.EventWords': WHATEVER THE INPUT: true; the input reads as it did. -/
def eventWordsSpec : ChangeSpec := { name := "eventWords", fn := fun _ => fun
  | [d] => { results := [.lit (.bool true)], args := [d] }
  | _ => none }
def eventWordsRow : OpenClaim := { program := "ytoiankbopjaamaadoor", sum := "ffe972fd21ae9ebb3590829fd087ee63ef91f1cd00c82842da5e2cb28bdf0303", func := "partita/partitalaw06.EventWords", spec := "eventWords", unfollowed := true, recurses := true, named := ["unicode/utf8.first", "unicode/utf8.acceptRanges", "partita/pitch.halves", "partita/value.bases", "partita/value.dotted"], plainKeys := false, apart := false, laid := [("unicode/utf8.acceptRanges", laid_unicode_utf8_acceptRanges), ("partita/pitch.halves", laid_partita_pitch_halves), ("partita/value.bases", laid_partita_value_bases), ("partita/value.dotted", laid_partita_value_dotted), ("unicode/utf8.first", laid_unicode_utf8_first)] }
def EventWordsSaid : Prop := eventWordsRow.holds Tryd.pinned (OpenSpec.ofChange eventWordsSpec)

/-- ITS FALSE NEIGHBOUR: 'it returns false'. Refute it at one input. -/
def eventWordsWrong : ChangeSpec := { name := "eventWords", fn := fun _ => fun
  | [d] => { results := [.lit (.bool false)], args := [d] }
  | _ => none }
def EventWordsWrongFalsely : Prop := eventWordsRow.holds Tryd.pinned (OpenSpec.ofChange eventWordsWrong)

/- THE SECOND FORM. 'bulk': how many values and letters a reading holds, each counted each time it is reached (what is shared counts as often as it is met; a slice's spare places count too). A statement '..UptoSaid' is the law's where the arguments, and the package variables that the reading takes, are together of bulk at most 1048576: NARROWER than '..Said'. Prove '..Said' where nothing that the law and all that it calls make is longer than what came in: it says more and counts as full. Else prove '..UptoSaid'. A law counts once. -/
mutual
def uptoBulk {H : Type} : DataW H → Nat
  | .lit (.string bytes) => bytes.length + 1
  | .lit _ => 1
  | .nil => 1
  | .ptr d => uptoBulk d + 1
  | .slice elems spare => uptoBulkAll elems + uptoBulkAll spare + 1
  | .agg parts => uptoBulkAll parts + 1
  | .iface _ d => uptoBulk d + 1
  | .map entries => uptoBulkEntries entries + 1
  | .held _ => 1
def uptoBulkAll {H : Type} : List (DataW H) → Nat
  | [] => 0
  | d :: r => uptoBulk d + uptoBulkAll r
def uptoBulkEntries {H : Type} : List (Lit × DataW H) → Nat
  | [] => 0
  | x :: r => uptoBulkEntry x + uptoBulkEntries r
def uptoBulkEntry {H : Type} : Lit × DataW H → Nat
  | (.string bytes, d) => bytes.length + uptoBulk d + 1
  | (_, d) => uptoBulk d + 1
 end
def uptoSmall : (H : Type) → List (DataW H) → Bool := fun _ ds => decide (uptoBulkAll ds ≤ 1048576)
def OpenSpec.upto (s : _root_.Go.ChangeSpec) : _root_.Go.OpenSpec := { _root_.Go.OpenSpec.ofChange s with cond := some uptoSmall }

/-- 'partitalaw06.EventRights', WHERE WHAT IT READS IS OF BULK AT MOST 1048576: true; the input reads as it did. -/
def eventRightsUptoRow : OpenClaim := { program := "ytoiankbopjaamaadoor", sum := "ffe972fd21ae9ebb3590829fd087ee63ef91f1cd00c82842da5e2cb28bdf0303", func := "partita/partitalaw06.EventRights", spec := "eventRights", unfollowed := true, recurses := true, named := ["unicode/utf8.first", "unicode/utf8.acceptRanges", "partita/pitch.halves", "partita/value.bases", "partita/value.dotted"], plainKeys := false, apart := false, laid := [("unicode/utf8.acceptRanges", laid_unicode_utf8_acceptRanges), ("partita/pitch.halves", laid_partita_pitch_halves), ("partita/value.bases", laid_partita_value_bases), ("partita/value.dotted", laid_partita_value_dotted), ("unicode/utf8.first", laid_unicode_utf8_first)], narrowed := true }
def EventRightsUptoSaid : Prop := eventRightsUptoRow.holds Tryd.pinned (OpenSpec.upto eventRightsSpec)

/-- 'partitalaw06.EventSames', WHERE WHAT IT READS IS OF BULK AT MOST 1048576: true; the input reads as it did. -/
def eventSamesUptoRow : OpenClaim := { program := "ytoiankbopjaamaadoor", sum := "ffe972fd21ae9ebb3590829fd087ee63ef91f1cd00c82842da5e2cb28bdf0303", func := "partita/partitalaw06.EventSames", spec := "eventSames", unfollowed := true, recurses := true, named := ["unicode/utf8.first", "unicode/utf8.acceptRanges", "partita/pitch.halves", "partita/value.bases", "partita/value.dotted"], plainKeys := false, apart := false, laid := [("unicode/utf8.acceptRanges", laid_unicode_utf8_acceptRanges), ("partita/pitch.halves", laid_partita_pitch_halves), ("partita/value.bases", laid_partita_value_bases), ("partita/value.dotted", laid_partita_value_dotted), ("unicode/utf8.first", laid_unicode_utf8_first)], narrowed := true }
def EventSamesUptoSaid : Prop := eventSamesUptoRow.holds Tryd.pinned (OpenSpec.upto eventSamesSpec)

/-- 'partitalaw06.EventUps', WHERE WHAT IT READS IS OF BULK AT MOST 1048576: true; the input reads as it did. -/
def eventUpsUptoRow : OpenClaim := { program := "ytoiankbopjaamaadoor", sum := "ffe972fd21ae9ebb3590829fd087ee63ef91f1cd00c82842da5e2cb28bdf0303", func := "partita/partitalaw06.EventUps", spec := "eventUps", unfollowed := true, recurses := true, named := ["unicode/utf8.first", "unicode/utf8.acceptRanges", "partita/pitch.halves", "partita/value.bases", "partita/value.dotted"], plainKeys := false, apart := false, laid := [("unicode/utf8.acceptRanges", laid_unicode_utf8_acceptRanges), ("partita/pitch.halves", laid_partita_pitch_halves), ("partita/value.bases", laid_partita_value_bases), ("partita/value.dotted", laid_partita_value_dotted), ("unicode/utf8.first", laid_unicode_utf8_first)], narrowed := true }
def EventUpsUptoSaid : Prop := eventUpsUptoRow.holds Tryd.pinned (OpenSpec.upto eventUpsSpec)

/-- 'partitalaw06.EventChords', WHERE WHAT IT READS IS OF BULK AT MOST 1048576: true; the input reads as it did. -/
def eventChordsUptoRow : OpenClaim := { program := "ytoiankbopjaamaadoor", sum := "ffe972fd21ae9ebb3590829fd087ee63ef91f1cd00c82842da5e2cb28bdf0303", func := "partita/partitalaw06.EventChords", spec := "eventChords", unfollowed := true, recurses := true, named := ["unicode/utf8.first", "unicode/utf8.acceptRanges", "partita/pitch.halves", "partita/value.bases", "partita/value.dotted"], plainKeys := false, apart := false, laid := [("unicode/utf8.acceptRanges", laid_unicode_utf8_acceptRanges), ("partita/pitch.halves", laid_partita_pitch_halves), ("partita/value.bases", laid_partita_value_bases), ("partita/value.dotted", laid_partita_value_dotted), ("unicode/utf8.first", laid_unicode_utf8_first)], narrowed := true }
def EventChordsUptoSaid : Prop := eventChordsUptoRow.holds Tryd.pinned (OpenSpec.upto eventChordsSpec)

/-- 'partitalaw06.EventUpBack', WHERE WHAT IT READS IS OF BULK AT MOST 1048576: true; the input reads as it did. -/
def eventUpBackUptoRow : OpenClaim := { program := "ytoiankbopjaamaadoor", sum := "ffe972fd21ae9ebb3590829fd087ee63ef91f1cd00c82842da5e2cb28bdf0303", func := "partita/partitalaw06.EventUpBack", spec := "eventUpBack", unfollowed := true, recurses := true, named := ["unicode/utf8.first", "unicode/utf8.acceptRanges", "partita/pitch.halves", "partita/value.bases", "partita/value.dotted"], plainKeys := false, apart := false, laid := [("unicode/utf8.acceptRanges", laid_unicode_utf8_acceptRanges), ("partita/pitch.halves", laid_partita_pitch_halves), ("partita/value.bases", laid_partita_value_bases), ("partita/value.dotted", laid_partita_value_dotted), ("unicode/utf8.first", laid_unicode_utf8_first)], narrowed := true }
def EventUpBackUptoSaid : Prop := eventUpBackUptoRow.holds Tryd.pinned (OpenSpec.upto eventUpBackSpec)

/-- 'partitalaw06.EventUpEach', WHERE WHAT IT READS IS OF BULK AT MOST 1048576: true; the input reads as it did. -/
def eventUpEachUptoRow : OpenClaim := { program := "ytoiankbopjaamaadoor", sum := "ffe972fd21ae9ebb3590829fd087ee63ef91f1cd00c82842da5e2cb28bdf0303", func := "partita/partitalaw06.EventUpEach", spec := "eventUpEach", unfollowed := true, recurses := true, named := ["unicode/utf8.first", "unicode/utf8.acceptRanges", "partita/pitch.halves", "partita/value.bases", "partita/value.dotted"], plainKeys := false, apart := false, laid := [("unicode/utf8.acceptRanges", laid_unicode_utf8_acceptRanges), ("partita/pitch.halves", laid_partita_pitch_halves), ("partita/value.bases", laid_partita_value_bases), ("partita/value.dotted", laid_partita_value_dotted), ("unicode/utf8.first", laid_unicode_utf8_first)], narrowed := true }
def EventUpEachUptoSaid : Prop := eventUpEachUptoRow.holds Tryd.pinned (OpenSpec.upto eventUpEachSpec)

/-- 'partitalaw06.EventChordOne', WHERE WHAT IT READS IS OF BULK AT MOST 1048576: true; the input reads as it did. -/
def eventChordOneUptoRow : OpenClaim := { program := "ytoiankbopjaamaadoor", sum := "ffe972fd21ae9ebb3590829fd087ee63ef91f1cd00c82842da5e2cb28bdf0303", func := "partita/partitalaw06.EventChordOne", spec := "eventChordOne", unfollowed := true, recurses := true, named := ["unicode/utf8.first", "unicode/utf8.acceptRanges", "partita/pitch.halves", "partita/value.bases", "partita/value.dotted"], plainKeys := false, apart := false, laid := [("unicode/utf8.acceptRanges", laid_unicode_utf8_acceptRanges), ("partita/pitch.halves", laid_partita_pitch_halves), ("partita/value.bases", laid_partita_value_bases), ("partita/value.dotted", laid_partita_value_dotted), ("unicode/utf8.first", laid_unicode_utf8_first)], narrowed := true }
def EventChordOneUptoSaid : Prop := eventChordOneUptoRow.holds Tryd.pinned (OpenSpec.upto eventChordOneSpec)

/-- 'partitalaw06.EventChordTurn', WHERE WHAT IT READS IS OF BULK AT MOST 1048576: true; the input reads as it did. -/
def eventChordTurnUptoRow : OpenClaim := { program := "ytoiankbopjaamaadoor", sum := "ffe972fd21ae9ebb3590829fd087ee63ef91f1cd00c82842da5e2cb28bdf0303", func := "partita/partitalaw06.EventChordTurn", spec := "eventChordTurn", unfollowed := true, recurses := true, named := ["unicode/utf8.first", "unicode/utf8.acceptRanges", "partita/pitch.halves", "partita/value.bases", "partita/value.dotted"], plainKeys := false, apart := false, laid := [("unicode/utf8.acceptRanges", laid_unicode_utf8_acceptRanges), ("partita/pitch.halves", laid_partita_pitch_halves), ("partita/value.bases", laid_partita_value_bases), ("partita/value.dotted", laid_partita_value_dotted), ("unicode/utf8.first", laid_unicode_utf8_first)], narrowed := true }
def EventChordTurnUptoSaid : Prop := eventChordTurnUptoRow.holds Tryd.pinned (OpenSpec.upto eventChordTurnSpec)

/-- 'partitalaw06.EventChordAll', WHERE WHAT IT READS IS OF BULK AT MOST 1048576: true; the input reads as it did. -/
def eventChordAllUptoRow : OpenClaim := { program := "ytoiankbopjaamaadoor", sum := "ffe972fd21ae9ebb3590829fd087ee63ef91f1cd00c82842da5e2cb28bdf0303", func := "partita/partitalaw06.EventChordAll", spec := "eventChordAll", unfollowed := true, recurses := true, named := ["unicode/utf8.first", "unicode/utf8.acceptRanges", "partita/pitch.halves", "partita/value.bases", "partita/value.dotted"], plainKeys := false, apart := false, laid := [("unicode/utf8.acceptRanges", laid_unicode_utf8_acceptRanges), ("partita/pitch.halves", laid_partita_pitch_halves), ("partita/value.bases", laid_partita_value_bases), ("partita/value.dotted", laid_partita_value_dotted), ("unicode/utf8.first", laid_unicode_utf8_first)], narrowed := true }
def EventChordAllUptoSaid : Prop := eventChordAllUptoRow.holds Tryd.pinned (OpenSpec.upto eventChordAllSpec)

/-- 'partitalaw06.EventChordUp', WHERE WHAT IT READS IS OF BULK AT MOST 1048576: true; the input reads as it did. -/
def eventChordUpUptoRow : OpenClaim := { program := "ytoiankbopjaamaadoor", sum := "ffe972fd21ae9ebb3590829fd087ee63ef91f1cd00c82842da5e2cb28bdf0303", func := "partita/partitalaw06.EventChordUp", spec := "eventChordUp", unfollowed := true, recurses := true, named := ["unicode/utf8.first", "unicode/utf8.acceptRanges", "partita/pitch.halves", "partita/value.bases", "partita/value.dotted"], plainKeys := false, apart := false, laid := [("unicode/utf8.acceptRanges", laid_unicode_utf8_acceptRanges), ("partita/pitch.halves", laid_partita_pitch_halves), ("partita/value.bases", laid_partita_value_bases), ("partita/value.dotted", laid_partita_value_dotted), ("unicode/utf8.first", laid_unicode_utf8_first)], narrowed := true }
def EventChordUpUptoSaid : Prop := eventChordUpUptoRow.holds Tryd.pinned (OpenSpec.upto eventChordUpSpec)

/-- 'partitalaw06.EventLengths', WHERE WHAT IT READS IS OF BULK AT MOST 1048576: true; the input reads as it did. -/
def eventLengthsUptoRow : OpenClaim := { program := "ytoiankbopjaamaadoor", sum := "ffe972fd21ae9ebb3590829fd087ee63ef91f1cd00c82842da5e2cb28bdf0303", func := "partita/partitalaw06.EventLengths", spec := "eventLengths", unfollowed := true, recurses := true, named := ["unicode/utf8.first", "unicode/utf8.acceptRanges", "partita/pitch.halves", "partita/value.bases", "partita/value.dotted"], plainKeys := false, apart := false, laid := [("unicode/utf8.acceptRanges", laid_unicode_utf8_acceptRanges), ("partita/pitch.halves", laid_partita_pitch_halves), ("partita/value.bases", laid_partita_value_bases), ("partita/value.dotted", laid_partita_value_dotted), ("unicode/utf8.first", laid_unicode_utf8_first)], narrowed := true }
def EventLengthsUptoSaid : Prop := eventLengthsUptoRow.holds Tryd.pinned (OpenSpec.upto eventLengthsSpec)

/-- 'partitalaw06.EventWords', WHERE WHAT IT READS IS OF BULK AT MOST 1048576: true; the input reads as it did. -/
def eventWordsUptoRow : OpenClaim := { program := "ytoiankbopjaamaadoor", sum := "ffe972fd21ae9ebb3590829fd087ee63ef91f1cd00c82842da5e2cb28bdf0303", func := "partita/partitalaw06.EventWords", spec := "eventWords", unfollowed := true, recurses := true, named := ["unicode/utf8.first", "unicode/utf8.acceptRanges", "partita/pitch.halves", "partita/value.bases", "partita/value.dotted"], plainKeys := false, apart := false, laid := [("unicode/utf8.acceptRanges", laid_unicode_utf8_acceptRanges), ("partita/pitch.halves", laid_partita_pitch_halves), ("partita/value.bases", laid_partita_value_bases), ("partita/value.dotted", laid_partita_value_dotted), ("unicode/utf8.first", laid_unicode_utf8_first)], narrowed := true }
def EventWordsUptoSaid : Prop := eventWordsUptoRow.holds Tryd.pinned (OpenSpec.upto eventWordsSpec)

end Rows
end Go.Proofs.YtoiankbopjaamaaDoor
