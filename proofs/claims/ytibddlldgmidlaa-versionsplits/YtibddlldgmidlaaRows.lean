/-
  No cell of these rows narrows 'for every input' (looked for: loops, veiled, ifaces, maps, wideKeys, modest, calm, conditions, laid).
  DERIVED. THE GIVEN ROWS OF THIS SEAT. 5 by the template 'for every input the law returns true; each argument reads behind the call as it read before'; 0 by the template 'total and deterministic' (their statements: YtibddlldgmidlaaTotals.lean).
  GIVEN WITH THE SEED: the statements are not yours to turn. If you find one false, say at which input.
  Laid BY PROGRAM, IN A SANDBOX (cutbox-rows.mjs): the forced cells as the released guide's own fill.sh prints them over the translation 7ee1dafe19727d3a… (all of the seat's roots in one cut). By AI agents, Wed Nov 11 2026. No macro, syntax, notation, axiom, sorry.
-/
import Derived.Test.YtibddlldgmidlaaChecked
import GoSem.Claim
import GoSem.ClaimJoined
import GoSem.ClaimMapViews
import Derived.JoinedTies
import Derived.KernelRfl
namespace Go.Proofs.Ytibddlldgmidlaa
/- THE CELL 'sum', in the pinned program and in every row, IS THE sha256 OF THE DUMP (.gsa) THAT YtibddlldgmidlaaProg.lean LOADS. Nothing in Lean hashes anything: it is a label: what it is worth is what the hold of that sum in a sandbox is worth. -/
noncomputable def Try.pinned : Pinned := { name := "ytibddlldgmidlaa", sum := "7ee1dafe19727d3a6abeb4d270cff10716dc07807519f5e8ec8a8b4edd97ab8f", checked := Try.checked }
namespace Rows
def none {H : Type} : Left H := { results := [], args := [] }

/-- 'shuttlelaw10.PatternTells': WHATEVER THE INPUT: true; the input reads as it did. -/
def patternTellsSpec : ChangeSpec := { name := "patternTells", fn := fun _ => fun
  | [d1, d2, d3] => { results := [.lit (.bool true)], args := [d1, d2, d3] }
  | _ => none }
def patternTellsRow : OpenClaim := { program := "ytibddlldgmidlaa", sum := "7ee1dafe19727d3a6abeb4d270cff10716dc07807519f5e8ec8a8b4edd97ab8f", func := "shuttle/shuttlelaw10.PatternTells", spec := "patternTells", apart := false }
def PatternTellsSaid : Prop := patternTellsRow.holds Try.pinned (OpenSpec.ofChange patternTellsSpec)

/-- ITS FALSE NEIGHBOUR: 'it returns false'. Refute it at one input. -/
def patternTellsWrong : ChangeSpec := { name := "patternTells", fn := fun _ => fun
  | [d1, d2, d3] => { results := [.lit (.bool false)], args := [d1, d2, d3] }
  | _ => none }
def PatternTellsWrongFalsely : Prop := patternTellsRow.holds Try.pinned (OpenSpec.ofChange patternTellsWrong)

/-- 'shuttlelaw10.PatternPlaces': WHATEVER THE INPUT: true; the input reads as it did. -/
def patternPlacesSpec : ChangeSpec := { name := "patternPlaces", fn := fun _ => fun
  | [d1, d2] => { results := [.lit (.bool true)], args := [d1, d2] }
  | _ => none }
def patternPlacesRow : OpenClaim := { program := "ytibddlldgmidlaa", sum := "7ee1dafe19727d3a6abeb4d270cff10716dc07807519f5e8ec8a8b4edd97ab8f", func := "shuttle/shuttlelaw10.PatternPlaces", spec := "patternPlaces", apart := false }
def PatternPlacesSaid : Prop := patternPlacesRow.holds Try.pinned (OpenSpec.ofChange patternPlacesSpec)

/-- ITS FALSE NEIGHBOUR: 'it returns false'. Refute it at one input. -/
def patternPlacesWrong : ChangeSpec := { name := "patternPlaces", fn := fun _ => fun
  | [d1, d2] => { results := [.lit (.bool false)], args := [d1, d2] }
  | _ => none }
def PatternPlacesWrongFalsely : Prop := patternPlacesRow.holds Try.pinned (OpenSpec.ofChange patternPlacesWrong)

/-- 'shuttlelaw10.PatternRound': WHATEVER THE INPUT: true; the input reads as it did. -/
def patternRoundSpec : ChangeSpec := { name := "patternRound", fn := fun _ => fun
  | [d1, d2] => { results := [.lit (.bool true)], args := [d1, d2] }
  | _ => none }
def patternRoundRow : OpenClaim := { program := "ytibddlldgmidlaa", sum := "7ee1dafe19727d3a6abeb4d270cff10716dc07807519f5e8ec8a8b4edd97ab8f", func := "shuttle/shuttlelaw10.PatternRound", spec := "patternRound", apart := false }
def PatternRoundSaid : Prop := patternRoundRow.holds Try.pinned (OpenSpec.ofChange patternRoundSpec)

/-- ITS FALSE NEIGHBOUR: 'it returns false'. Refute it at one input. -/
def patternRoundWrong : ChangeSpec := { name := "patternRound", fn := fun _ => fun
  | [d1, d2] => { results := [.lit (.bool false)], args := [d1, d2] }
  | _ => none }
def PatternRoundWrongFalsely : Prop := patternRoundRow.holds Try.pinned (OpenSpec.ofChange patternRoundWrong)

/-- 'shuttlelaw11.VersionSplits': WHATEVER THE INPUT: true; the input reads as it did. -/
def versionSplitsSpec : ChangeSpec := { name := "versionSplits", fn := fun _ => fun
  | [d] => { results := [.lit (.bool true)], args := [d] }
  | _ => none }
def versionSplitsRow : OpenClaim := { program := "ytibddlldgmidlaa", sum := "7ee1dafe19727d3a6abeb4d270cff10716dc07807519f5e8ec8a8b4edd97ab8f", func := "shuttle/shuttlelaw11.VersionSplits", spec := "versionSplits", apart := false }
def VersionSplitsSaid : Prop := versionSplitsRow.holds Try.pinned (OpenSpec.ofChange versionSplitsSpec)

/-- ITS FALSE NEIGHBOUR: 'it returns false'. Refute it at one input. -/
def versionSplitsWrong : ChangeSpec := { name := "versionSplits", fn := fun _ => fun
  | [d] => { results := [.lit (.bool false)], args := [d] }
  | _ => none }
def VersionSplitsWrongFalsely : Prop := versionSplitsRow.holds Try.pinned (OpenSpec.ofChange versionSplitsWrong)

/-- 'shuttlelaw11.VersionJoins': WHATEVER THE INPUT: true; the input reads as it did. -/
def versionJoinsSpec : ChangeSpec := { name := "versionJoins", fn := fun _ => fun
  | [d1, d2, d3] => { results := [.lit (.bool true)], args := [d1, d2, d3] }
  | _ => none }
def versionJoinsRow : OpenClaim := { program := "ytibddlldgmidlaa", sum := "7ee1dafe19727d3a6abeb4d270cff10716dc07807519f5e8ec8a8b4edd97ab8f", func := "shuttle/shuttlelaw11.VersionJoins", spec := "versionJoins", apart := false }
def VersionJoinsSaid : Prop := versionJoinsRow.holds Try.pinned (OpenSpec.ofChange versionJoinsSpec)

/-- ITS FALSE NEIGHBOUR: 'it returns false'. Refute it at one input. -/
def versionJoinsWrong : ChangeSpec := { name := "versionJoins", fn := fun _ => fun
  | [d1, d2, d3] => { results := [.lit (.bool false)], args := [d1, d2, d3] }
  | _ => none }
def VersionJoinsWrongFalsely : Prop := versionJoinsRow.holds Try.pinned (OpenSpec.ofChange versionJoinsWrong)

/- THE SECOND FORM. 'bulk': how many values and letters a reading holds, each counted each time it is reached (what is shared counts as often as it is met; a slice's spare places count too). A statement '..UptoSaid' is the law's where the arguments, and the package variables that the reading takes, are together of bulk at most 1048576: NARROWER than '..Said'. Prove '..Said' where nothing that the law and all that it calls make is longer than what came in: it says more and counts as full. Else prove '..UptoSaid'. A law counts once. -/
mutual
def uptoBulk {H : Type} : DataW H → Nat
  | .lit (.string bytes) => bytes.length + 1
  | .lit _ => 1
  | .nil => 1
  | .ptr d => uptoBulk d + 1
  | .slice elems spare => uptoBulkAll elems + uptoBulkAll spare + 1
  | .agg parts => uptoBulkAll parts + 1
  | .iface _ d => uptoBulk d + 1
  | .map entries => uptoBulkEntries entries + 1
  | .held _ => 1
def uptoBulkAll {H : Type} : List (DataW H) → Nat
  | [] => 0
  | d :: r => uptoBulk d + uptoBulkAll r
def uptoBulkEntries {H : Type} : List (Lit × DataW H) → Nat
  | [] => 0
  | x :: r => uptoBulkEntry x + uptoBulkEntries r
def uptoBulkEntry {H : Type} : Lit × DataW H → Nat
  | (.string bytes, d) => bytes.length + uptoBulk d + 1
  | (_, d) => uptoBulk d + 1
 end
def uptoSmall : (H : Type) → List (DataW H) → Bool := fun _ ds => decide (uptoBulkAll ds ≤ 1048576)
def OpenSpec.upto (s : _root_.Go.ChangeSpec) : _root_.Go.OpenSpec := { _root_.Go.OpenSpec.ofChange s with cond := some uptoSmall }

/-- 'shuttlelaw10.PatternTells', WHERE WHAT IT READS IS OF BULK AT MOST 1048576: true; the input reads as it did. -/
def patternTellsUptoRow : OpenClaim := { program := "ytibddlldgmidlaa", sum := "7ee1dafe19727d3a6abeb4d270cff10716dc07807519f5e8ec8a8b4edd97ab8f", func := "shuttle/shuttlelaw10.PatternTells", spec := "patternTells", apart := false, narrowed := true }
def PatternTellsUptoSaid : Prop := patternTellsUptoRow.holds Try.pinned (OpenSpec.upto patternTellsSpec)

/-- 'shuttlelaw10.PatternPlaces', WHERE WHAT IT READS IS OF BULK AT MOST 1048576: true; the input reads as it did. -/
def patternPlacesUptoRow : OpenClaim := { program := "ytibddlldgmidlaa", sum := "7ee1dafe19727d3a6abeb4d270cff10716dc07807519f5e8ec8a8b4edd97ab8f", func := "shuttle/shuttlelaw10.PatternPlaces", spec := "patternPlaces", apart := false, narrowed := true }
def PatternPlacesUptoSaid : Prop := patternPlacesUptoRow.holds Try.pinned (OpenSpec.upto patternPlacesSpec)

/-- 'shuttlelaw10.PatternRound', WHERE WHAT IT READS IS OF BULK AT MOST 1048576: true; the input reads as it did. -/
def patternRoundUptoRow : OpenClaim := { program := "ytibddlldgmidlaa", sum := "7ee1dafe19727d3a6abeb4d270cff10716dc07807519f5e8ec8a8b4edd97ab8f", func := "shuttle/shuttlelaw10.PatternRound", spec := "patternRound", apart := false, narrowed := true }
def PatternRoundUptoSaid : Prop := patternRoundUptoRow.holds Try.pinned (OpenSpec.upto patternRoundSpec)

/-- 'shuttlelaw11.VersionSplits', WHERE WHAT IT READS IS OF BULK AT MOST 1048576: true; the input reads as it did. -/
def versionSplitsUptoRow : OpenClaim := { program := "ytibddlldgmidlaa", sum := "7ee1dafe19727d3a6abeb4d270cff10716dc07807519f5e8ec8a8b4edd97ab8f", func := "shuttle/shuttlelaw11.VersionSplits", spec := "versionSplits", apart := false, narrowed := true }
def VersionSplitsUptoSaid : Prop := versionSplitsUptoRow.holds Try.pinned (OpenSpec.upto versionSplitsSpec)

/-- 'shuttlelaw11.VersionJoins', WHERE WHAT IT READS IS OF BULK AT MOST 1048576: true; the input reads as it did. -/
def versionJoinsUptoRow : OpenClaim := { program := "ytibddlldgmidlaa", sum := "7ee1dafe19727d3a6abeb4d270cff10716dc07807519f5e8ec8a8b4edd97ab8f", func := "shuttle/shuttlelaw11.VersionJoins", spec := "versionJoins", apart := false, narrowed := true }
def VersionJoinsUptoSaid : Prop := versionJoinsUptoRow.holds Try.pinned (OpenSpec.upto versionJoinsSpec)

end Rows
end Go.Proofs.Ytibddlldgmidlaa
