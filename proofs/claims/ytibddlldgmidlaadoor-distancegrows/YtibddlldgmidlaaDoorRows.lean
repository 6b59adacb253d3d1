/-
  NARROWER THAN 'FOR EVERY INPUT', by the rows' own cells (each row's printed sentence says how): VersionCodes: laid · VersionAlone: laid · VersionTurned: laid · DistanceLeast: laid · DistanceHolds: laid · DistanceGrows: laid · DistanceTurns: laid.
  DERIVED. THE GIVEN ROWS OF THIS SEAT. 7 by the template 'for every input the law returns true; each argument reads behind the call as it read before'; 0 by the template 'total and deterministic' (their statements: YtibddlldgmidlaaDoorTotals.lean).
  GIVEN WITH THE SEED: the statements are not yours to turn. If you find one false, say at which input.
  Laid BY PROGRAM, IN A SANDBOX (cutbox-rows.mjs): the forced cells as the released guide's own fill.sh prints them over the translation 48762a0c4b15e038… (all of the seat's roots in one cut). By AI agents, Wed Nov 11 2026. No macro, syntax, notation, axiom, sorry.
-/
import Derived.Test.YtibddlldgmidlaaDoorChecked
import GoSem.Claim
import GoSem.ClaimJoined
import GoSem.ClaimMapViews
import Derived.JoinedTies
import Derived.KernelRfl
namespace Go.Proofs.YtibddlldgmidlaaDoor
/- THE CELL 'sum', in the pinned program and in every row, IS THE sha256 OF THE DUMP (.gsa) THAT YtibddlldgmidlaaDoorProg.lean LOADS. Nothing in Lean hashes anything: it is a label: what it is worth is what the hold of that sum in a sandbox is worth. -/
noncomputable def Tryd.pinned : Pinned := { name := "ytibddlldgmidlaadoor", sum := "48762a0c4b15e0382b8251cb4dfca15e8080b156716331bd025a7fb80b449782", checked := Tryd.checked }
namespace Rows
def none {H : Type} : Left H := { results := [], args := [] }

/- WHAT THE LISTED PACKAGE-LEVEL VARIABLES READ AS WHEN THE CALL BEGINS. Each datum BY PROGRAM (the guide's laid-datum.mjs) off the statement by which the dump's own 'gosem.cut.vars' lays the variable. In a bare row this is a premise. The card (YtibddlldgmidlaaDoorCards.lean) ties it to the program's text. -/
def laid_shuttle_conv_taps {H : Type} : DataW H := .agg [.lit (.int .i64 79), .lit (.int .i64 87), .lit (.int .i64 109), .lit (.int .i64 121)]

/-- 'shuttlelaw11.VersionCodes': WHATEVER THE INPUT: true; the input reads as it did. -/
def versionCodesSpec : ChangeSpec := { name := "versionCodes", fn := fun _ => fun
  | [d1, d2] => { results := [.lit (.bool true)], args := [d1, d2] }
  | _ => none }
def versionCodesRow : OpenClaim := { program := "ytibddlldgmidlaadoor", sum := "48762a0c4b15e0382b8251cb4dfca15e8080b156716331bd025a7fb80b449782", func := "shuttle/shuttlelaw11.VersionCodes", spec := "versionCodes", named := ["shuttle/conv.taps"], apart := false, laid := [("shuttle/conv.taps", laid_shuttle_conv_taps)] }
def VersionCodesSaid : Prop := versionCodesRow.holds Tryd.pinned (OpenSpec.ofChange versionCodesSpec)

/-- ITS FALSE NEIGHBOUR: 'it returns false'. Refute it at one input. -/
def versionCodesWrong : ChangeSpec := { name := "versionCodes", fn := fun _ => fun
  | [d1, d2] => { results := [.lit (.bool false)], args := [d1, d2] }
  | _ => none }
def VersionCodesWrongFalsely : Prop := versionCodesRow.holds Tryd.pinned (OpenSpec.ofChange versionCodesWrong)

/-- 'shuttlelaw11.VersionAlone': WHATEVER THE INPUT: true; the input reads as it did. -/
def versionAloneSpec : ChangeSpec := { name := "versionAlone", fn := fun _ => fun
  | [d1, d2] => { results := [.lit (.bool true)], args := [d1, d2] }
  | _ => none }
def versionAloneRow : OpenClaim := { program := "ytibddlldgmidlaadoor", sum := "48762a0c4b15e0382b8251cb4dfca15e8080b156716331bd025a7fb80b449782", func := "shuttle/shuttlelaw11.VersionAlone", spec := "versionAlone", named := ["shuttle/conv.taps"], apart := false, laid := [("shuttle/conv.taps", laid_shuttle_conv_taps)] }
def VersionAloneSaid : Prop := versionAloneRow.holds Tryd.pinned (OpenSpec.ofChange versionAloneSpec)

/-- ITS FALSE NEIGHBOUR: 'it returns false'. Refute it at one input. -/
def versionAloneWrong : ChangeSpec := { name := "versionAlone", fn := fun _ => fun
  | [d1, d2] => { results := [.lit (.bool false)], args := [d1, d2] }
  | _ => none }
def VersionAloneWrongFalsely : Prop := versionAloneRow.holds Tryd.pinned (OpenSpec.ofChange versionAloneWrong)

/-- 'shuttlelaw11.VersionTurned': WHATEVER THE INPUT: true; the input reads as it did. -/
def versionTurnedSpec : ChangeSpec := { name := "versionTurned", fn := fun _ => fun
  | [d1, d2, d3] => { results := [.lit (.bool true)], args := [d1, d2, d3] }
  | _ => none }
def versionTurnedRow : OpenClaim := { program := "ytibddlldgmidlaadoor", sum := "48762a0c4b15e0382b8251cb4dfca15e8080b156716331bd025a7fb80b449782", func := "shuttle/shuttlelaw11.VersionTurned", spec := "versionTurned", named := ["shuttle/conv.taps"], apart := false, laid := [("shuttle/conv.taps", laid_shuttle_conv_taps)] }
def VersionTurnedSaid : Prop := versionTurnedRow.holds Tryd.pinned (OpenSpec.ofChange versionTurnedSpec)

/-- ITS FALSE NEIGHBOUR: 'it returns false'. Refute it at one input. -/
def versionTurnedWrong : ChangeSpec := { name := "versionTurned", fn := fun _ => fun
  | [d1, d2, d3] => { results := [.lit (.bool false)], args := [d1, d2, d3] }
  | _ => none }
def VersionTurnedWrongFalsely : Prop := versionTurnedRow.holds Tryd.pinned (OpenSpec.ofChange versionTurnedWrong)

/-- 'shuttlelaw12.DistanceLeast': WHATEVER THE INPUT: true; the input reads as it did. -/
def distanceLeastSpec : ChangeSpec := { name := "distanceLeast", fn := fun _ => fun
  | [d] => { results := [.lit (.bool true)], args := [d] }
  | _ => none }
def distanceLeastRow : OpenClaim := { program := "ytibddlldgmidlaadoor", sum := "48762a0c4b15e0382b8251cb4dfca15e8080b156716331bd025a7fb80b449782", func := "shuttle/shuttlelaw12.DistanceLeast", spec := "distanceLeast", named := ["shuttle/conv.taps"], apart := false, laid := [("shuttle/conv.taps", laid_shuttle_conv_taps)] }
def DistanceLeastSaid : Prop := distanceLeastRow.holds Tryd.pinned (OpenSpec.ofChange distanceLeastSpec)

/-- ITS FALSE NEIGHBOUR: 'it returns false'. Refute it at one input. -/
def distanceLeastWrong : ChangeSpec := { name := "distanceLeast", fn := fun _ => fun
  | [d] => { results := [.lit (.bool false)], args := [d] }
  | _ => none }
def DistanceLeastWrongFalsely : Prop := distanceLeastRow.holds Tryd.pinned (OpenSpec.ofChange distanceLeastWrong)

/-- 'shuttlelaw12.DistanceHolds': WHATEVER THE INPUT: true; the input reads as it did. -/
def distanceHoldsSpec : ChangeSpec := { name := "distanceHolds", fn := fun _ => fun
  | [d1, d2, d3] => { results := [.lit (.bool true)], args := [d1, d2, d3] }
  | _ => none }
def distanceHoldsRow : OpenClaim := { program := "ytibddlldgmidlaadoor", sum := "48762a0c4b15e0382b8251cb4dfca15e8080b156716331bd025a7fb80b449782", func := "shuttle/shuttlelaw12.DistanceHolds", spec := "distanceHolds", named := ["shuttle/conv.taps"], apart := false, laid := [("shuttle/conv.taps", laid_shuttle_conv_taps)] }
def DistanceHoldsSaid : Prop := distanceHoldsRow.holds Tryd.pinned (OpenSpec.ofChange distanceHoldsSpec)

/-- ITS FALSE NEIGHBOUR: 'it returns false'. Refute it at one input. -/
def distanceHoldsWrong : ChangeSpec := { name := "distanceHolds", fn := fun _ => fun
  | [d1, d2, d3] => { results := [.lit (.bool false)], args := [d1, d2, d3] }
  | _ => none }
def DistanceHoldsWrongFalsely : Prop := distanceHoldsRow.holds Tryd.pinned (OpenSpec.ofChange distanceHoldsWrong)

/-- 'shuttlelaw12.DistanceGrows': WHATEVER THE INPUT: true; the input reads as it did. -/
def distanceGrowsSpec : ChangeSpec := { name := "distanceGrows", fn := fun _ => fun
  | [d1, d2] => { results := [.lit (.bool true)], args := [d1, d2] }
  | _ => none }
def distanceGrowsRow : OpenClaim := { program := "ytibddlldgmidlaadoor", sum := "48762a0c4b15e0382b8251cb4dfca15e8080b156716331bd025a7fb80b449782", func := "shuttle/shuttlelaw12.DistanceGrows", spec := "distanceGrows", named := ["shuttle/conv.taps"], apart := false, laid := [("shuttle/conv.taps", laid_shuttle_conv_taps)] }
def DistanceGrowsSaid : Prop := distanceGrowsRow.holds Tryd.pinned (OpenSpec.ofChange distanceGrowsSpec)

/-- ITS FALSE NEIGHBOUR: 'it returns false'. Refute it at one input. -/
def distanceGrowsWrong : ChangeSpec := { name := "distanceGrows", fn := fun _ => fun
  | [d1, d2] => { results := [.lit (.bool false)], args := [d1, d2] }
  | _ => none }
def DistanceGrowsWrongFalsely : Prop := distanceGrowsRow.holds Tryd.pinned (OpenSpec.ofChange distanceGrowsWrong)

/-- 'shuttlelaw12.DistanceTurns': WHATEVER THE INPUT: true; the input reads as it did. -/
def distanceTurnsSpec : ChangeSpec := { name := "distanceTurns", fn := fun _ => fun
  | [d1, d2] => { results := [.lit (.bool true)], args := [d1, d2] }
  | _ => none }
def distanceTurnsRow : OpenClaim := { program := "ytibddlldgmidlaadoor", sum := "48762a0c4b15e0382b8251cb4dfca15e8080b156716331bd025a7fb80b449782", func := "shuttle/shuttlelaw12.DistanceTurns", spec := "distanceTurns", named := ["shuttle/conv.taps"], apart := false, laid := [("shuttle/conv.taps", laid_shuttle_conv_taps)] }
def DistanceTurnsSaid : Prop := distanceTurnsRow.holds Tryd.pinned (OpenSpec.ofChange distanceTurnsSpec)

/-- ITS FALSE NEIGHBOUR: 'it returns false'. Refute it at one input. -/
def distanceTurnsWrong : ChangeSpec := { name := "distanceTurns", fn := fun _ => fun
  | [d1, d2] => { results := [.lit (.bool false)], args := [d1, d2] }
  | _ => none }
def DistanceTurnsWrongFalsely : Prop := distanceTurnsRow.holds Tryd.pinned (OpenSpec.ofChange distanceTurnsWrong)

/- THE SECOND FORM. 'bulk': how many values and letters a reading holds, each counted each time it is reached (what is shared counts as often as it is met; a slice's spare places count too). A statement '..UptoSaid' is the law's where the arguments, and the package variables that the reading takes, are together of bulk at most 1048576: NARROWER than '..Said'. Prove '..Said' where nothing that the law and all that it calls make is longer than what came in: it says more and counts as full. Else prove '..UptoSaid'. A law counts once. -/
mutual
def uptoBulk {H : Type} : DataW H → Nat
  | .lit (.string bytes) => bytes.length + 1
  | .lit _ => 1
  | .nil => 1
  | .ptr d => uptoBulk d + 1
  | .slice elems spare => uptoBulkAll elems + uptoBulkAll spare + 1
  | .agg parts => uptoBulkAll parts + 1
  | .iface _ d => uptoBulk d + 1
  | .map entries => uptoBulkEntries entries + 1
  | .held _ => 1
def uptoBulkAll {H : Type} : List (DataW H) → Nat
  | [] => 0
  | d :: r => uptoBulk d + uptoBulkAll r
def uptoBulkEntries {H : Type} : List (Lit × DataW H) → Nat
  | [] => 0
  | x :: r => uptoBulkEntry x + uptoBulkEntries r
def uptoBulkEntry {H : Type} : Lit × DataW H → Nat
  | (.string bytes, d) => bytes.length + uptoBulk d + 1
  | (_, d) => uptoBulk d + 1
 end
def uptoSmall : (H : Type) → List (DataW H) → Bool := fun _ ds => decide (uptoBulkAll ds ≤ 1048576)
def OpenSpec.upto (s : _root_.Go.ChangeSpec) : _root_.Go.OpenSpec := { _root_.Go.OpenSpec.ofChange s with cond := some uptoSmall }

/-- 'shuttlelaw11.VersionCodes', WHERE WHAT IT READS IS OF BULK AT MOST 1048576: true; the input reads as it did. -/
def versionCodesUptoRow : OpenClaim := { program := "ytibddlldgmidlaadoor", sum := "48762a0c4b15e0382b8251cb4dfca15e8080b156716331bd025a7fb80b449782", func := "shuttle/shuttlelaw11.VersionCodes", spec := "versionCodes", named := ["shuttle/conv.taps"], apart := false, laid := [("shuttle/conv.taps", laid_shuttle_conv_taps)], narrowed := true }
def VersionCodesUptoSaid : Prop := versionCodesUptoRow.holds Tryd.pinned (OpenSpec.upto versionCodesSpec)

/-- 'shuttlelaw11.VersionAlone', WHERE WHAT IT READS IS OF BULK AT MOST 1048576: true; the input reads as it did. -/
def versionAloneUptoRow : OpenClaim := { program := "ytibddlldgmidlaadoor", sum := "48762a0c4b15e0382b8251cb4dfca15e8080b156716331bd025a7fb80b449782", func := "shuttle/shuttlelaw11.VersionAlone", spec := "versionAlone", named := ["shuttle/conv.taps"], apart := false, laid := [("shuttle/conv.taps", laid_shuttle_conv_taps)], narrowed := true }
def VersionAloneUptoSaid : Prop := versionAloneUptoRow.holds Tryd.pinned (OpenSpec.upto versionAloneSpec)

/-- 'shuttlelaw11.VersionTurned', WHERE WHAT IT READS IS OF BULK AT MOST 1048576: true; the input reads as it did. -/
def versionTurnedUptoRow : OpenClaim := { program := "ytibddlldgmidlaadoor", sum := "48762a0c4b15e0382b8251cb4dfca15e8080b156716331bd025a7fb80b449782", func := "shuttle/shuttlelaw11.VersionTurned", spec := "versionTurned", named := ["shuttle/conv.taps"], apart := false, laid := [("shuttle/conv.taps", laid_shuttle_conv_taps)], narrowed := true }
def VersionTurnedUptoSaid : Prop := versionTurnedUptoRow.holds Tryd.pinned (OpenSpec.upto versionTurnedSpec)

/-- 'shuttlelaw12.DistanceLeast', WHERE WHAT IT READS IS OF BULK AT MOST 1048576: true; the input reads as it did. -/
def distanceLeastUptoRow : OpenClaim := { program := "ytibddlldgmidlaadoor", sum := "48762a0c4b15e0382b8251cb4dfca15e8080b156716331bd025a7fb80b449782", func := "shuttle/shuttlelaw12.DistanceLeast", spec := "distanceLeast", named := ["shuttle/conv.taps"], apart := false, laid := [("shuttle/conv.taps", laid_shuttle_conv_taps)], narrowed := true }
def DistanceLeastUptoSaid : Prop := distanceLeastUptoRow.holds Tryd.pinned (OpenSpec.upto distanceLeastSpec)

/-- 'shuttlelaw12.DistanceHolds', WHERE WHAT IT READS IS OF BULK AT MOST 1048576: true; the input reads as it did. -/
def distanceHoldsUptoRow : OpenClaim := { program := "ytibddlldgmidlaadoor", sum := "48762a0c4b15e0382b8251cb4dfca15e8080b156716331bd025a7fb80b449782", func := "shuttle/shuttlelaw12.DistanceHolds", spec := "distanceHolds", named := ["shuttle/conv.taps"], apart := false, laid := [("shuttle/conv.taps", laid_shuttle_conv_taps)], narrowed := true }
def DistanceHoldsUptoSaid : Prop := distanceHoldsUptoRow.holds Tryd.pinned (OpenSpec.upto distanceHoldsSpec)

/-- 'shuttlelaw12.DistanceGrows', WHERE WHAT IT READS IS OF BULK AT MOST 1048576: true; the input reads as it did. -/
def distanceGrowsUptoRow : OpenClaim := { program := "ytibddlldgmidlaadoor", sum := "48762a0c4b15e0382b8251cb4dfca15e8080b156716331bd025a7fb80b449782", func := "shuttle/shuttlelaw12.DistanceGrows", spec := "distanceGrows", named := ["shuttle/conv.taps"], apart := false, laid := [("shuttle/conv.taps", laid_shuttle_conv_taps)], narrowed := true }
def DistanceGrowsUptoSaid : Prop := distanceGrowsUptoRow.holds Tryd.pinned (OpenSpec.upto distanceGrowsSpec)

/-- 'shuttlelaw12.DistanceTurns', WHERE WHAT IT READS IS OF BULK AT MOST 1048576: true; the input reads as it did. -/
def distanceTurnsUptoRow : OpenClaim := { program := "ytibddlldgmidlaadoor", sum := "48762a0c4b15e0382b8251cb4dfca15e8080b156716331bd025a7fb80b449782", func := "shuttle/shuttlelaw12.DistanceTurns", spec := "distanceTurns", named := ["shuttle/conv.taps"], apart := false, laid := [("shuttle/conv.taps", laid_shuttle_conv_taps)], narrowed := true }
def DistanceTurnsUptoSaid : Prop := distanceTurnsUptoRow.holds Tryd.pinned (OpenSpec.upto distanceTurnsSpec)

end Rows
end Go.Proofs.YtibddlldgmidlaaDoor
