/-
  NARROWER THAN 'FOR EVERY INPUT', by the rows' own cells (each row's printed sentence says how): CombineAdds: laid · CombineOrder: laid · CombineMends: laid · CombineWhole: laid · ShuttleMends: laid.
  DERIVED. THE GIVEN ROWS OF THIS SEAT. 5 by the template 'for every input the law returns true; each argument reads behind the call as it read before'; 0 by the template 'total and deterministic' (their statements: YtibddlldgmidlabDoorTotals.lean).
  GIVEN WITH THE SEED: the statements are not yours to turn. If you find one false, say at which input.
  Laid BY PROGRAM, IN A SANDBOX (cutbox-rows.mjs): the forced cells as the released guide's own fill.sh prints them over the translation 9b7c2f1ec7d0eb26… (all of the seat's roots in one cut). By AI agents, Wed Nov 11 2026. No macro, syntax, notation, axiom, sorry.
-/
import Derived.Test.YtibddlldgmidlabDoorChecked
import GoSem.Claim
import GoSem.ClaimJoined
import GoSem.ClaimMapViews
import Derived.JoinedTies
import Derived.KernelRfl
namespace Go.Proofs.YtibddlldgmidlabDoor
/- THE CELL 'sum', in the pinned program and in every row, IS THE sha256 OF THE DUMP (.gsa) THAT YtibddlldgmidlabDoorProg.lean LOADS. Nothing in Lean hashes anything: it is a label: what it is worth is what the hold of that sum in a sandbox is worth. -/
noncomputable def Tryd.pinned : Pinned := { name := "ytibddlldgmidlabdoor", sum := "9b7c2f1ec7d0eb26cac45d33af5471bab77c8d9f522ead1785c80ab705e6e9e2", checked := Tryd.checked }
namespace Rows
def none {H : Type} : Left H := { results := [], args := [] }

/- WHAT THE LISTED PACKAGE-LEVEL VARIABLES READ AS WHEN THE CALL BEGINS. Each datum BY PROGRAM (the guide's laid-datum.mjs) off the statement by which the dump's own 'gosem.cut.vars' lays the variable. In a bare row this is a premise. The card (YtibddlldgmidlabDoorCards.lean) ties it to the program's text. -/
def laid_shuttle_conv_taps {H : Type} : DataW H := .agg [.lit (.int .i64 79), .lit (.int .i64 87), .lit (.int .i64 109), .lit (.int .i64 121)]

/-- 'shuttlelaw13.CombineAdds': WHATEVER THE INPUT: true; the input reads as it did. -/
def combineAddsSpec : ChangeSpec := { name := "combineAdds", fn := fun _ => fun
  | [d1, d2, d3] => { results := [.lit (.bool true)], args := [d1, d2, d3] }
  | _ => none }
def combineAddsRow : OpenClaim := { program := "ytibddlldgmidlabdoor", sum := "9b7c2f1ec7d0eb26cac45d33af5471bab77c8d9f522ead1785c80ab705e6e9e2", func := "shuttle/shuttlelaw13.CombineAdds", spec := "combineAdds", named := ["shuttle/conv.taps"], apart := false, laid := [("shuttle/conv.taps", laid_shuttle_conv_taps)] }
def CombineAddsSaid : Prop := combineAddsRow.holds Tryd.pinned (OpenSpec.ofChange combineAddsSpec)

/-- ITS FALSE NEIGHBOUR: 'it returns false'. Refute it at one input. -/
def combineAddsWrong : ChangeSpec := { name := "combineAdds", fn := fun _ => fun
  | [d1, d2, d3] => { results := [.lit (.bool false)], args := [d1, d2, d3] }
  | _ => none }
def CombineAddsWrongFalsely : Prop := combineAddsRow.holds Tryd.pinned (OpenSpec.ofChange combineAddsWrong)

/-- 'shuttlelaw13.CombineOrder': WHATEVER THE INPUT: true; the input reads as it did. -/
def combineOrderSpec : ChangeSpec := { name := "combineOrder", fn := fun _ => fun
  | [d1, d2, d3] => { results := [.lit (.bool true)], args := [d1, d2, d3] }
  | _ => none }
def combineOrderRow : OpenClaim := { program := "ytibddlldgmidlabdoor", sum := "9b7c2f1ec7d0eb26cac45d33af5471bab77c8d9f522ead1785c80ab705e6e9e2", func := "shuttle/shuttlelaw13.CombineOrder", spec := "combineOrder", named := ["shuttle/conv.taps"], apart := false, laid := [("shuttle/conv.taps", laid_shuttle_conv_taps)] }
def CombineOrderSaid : Prop := combineOrderRow.holds Tryd.pinned (OpenSpec.ofChange combineOrderSpec)

/-- ITS FALSE NEIGHBOUR: 'it returns false'. Refute it at one input. -/
def combineOrderWrong : ChangeSpec := { name := "combineOrder", fn := fun _ => fun
  | [d1, d2, d3] => { results := [.lit (.bool false)], args := [d1, d2, d3] }
  | _ => none }
def CombineOrderWrongFalsely : Prop := combineOrderRow.holds Tryd.pinned (OpenSpec.ofChange combineOrderWrong)

/-- 'shuttlelaw13.CombineMends': WHATEVER THE INPUT: true; the input reads as it did. -/
def combineMendsSpec : ChangeSpec := { name := "combineMends", fn := fun _ => fun
  | [d1, d2] => { results := [.lit (.bool true)], args := [d1, d2] }
  | _ => none }
def combineMendsRow : OpenClaim := { program := "ytibddlldgmidlabdoor", sum := "9b7c2f1ec7d0eb26cac45d33af5471bab77c8d9f522ead1785c80ab705e6e9e2", func := "shuttle/shuttlelaw13.CombineMends", spec := "combineMends", named := ["shuttle/conv.taps"], apart := false, laid := [("shuttle/conv.taps", laid_shuttle_conv_taps)] }
def CombineMendsSaid : Prop := combineMendsRow.holds Tryd.pinned (OpenSpec.ofChange combineMendsSpec)

/-- ITS FALSE NEIGHBOUR: 'it returns false'. Refute it at one input. -/
def combineMendsWrong : ChangeSpec := { name := "combineMends", fn := fun _ => fun
  | [d1, d2] => { results := [.lit (.bool false)], args := [d1, d2] }
  | _ => none }
def CombineMendsWrongFalsely : Prop := combineMendsRow.holds Tryd.pinned (OpenSpec.ofChange combineMendsWrong)

/-- 'shuttlelaw13.CombineWhole': WHATEVER THE INPUT: true; the input reads as it did. -/
def combineWholeSpec : ChangeSpec := { name := "combineWhole", fn := fun _ => fun
  | [d1, d2, d3] => { results := [.lit (.bool true)], args := [d1, d2, d3] }
  | _ => none }
def combineWholeRow : OpenClaim := { program := "ytibddlldgmidlabdoor", sum := "9b7c2f1ec7d0eb26cac45d33af5471bab77c8d9f522ead1785c80ab705e6e9e2", func := "shuttle/shuttlelaw13.CombineWhole", spec := "combineWhole", named := ["shuttle/conv.taps"], apart := false, laid := [("shuttle/conv.taps", laid_shuttle_conv_taps)] }
def CombineWholeSaid : Prop := combineWholeRow.holds Tryd.pinned (OpenSpec.ofChange combineWholeSpec)

/-- ITS FALSE NEIGHBOUR: 'it returns false'. Refute it at one input. -/
def combineWholeWrong : ChangeSpec := { name := "combineWhole", fn := fun _ => fun
  | [d1, d2, d3] => { results := [.lit (.bool false)], args := [d1, d2, d3] }
  | _ => none }
def CombineWholeWrongFalsely : Prop := combineWholeRow.holds Tryd.pinned (OpenSpec.ofChange combineWholeWrong)

/-- 'shuttletop.ShuttleMends': WHATEVER THE INPUT: true; the input reads as it did. -/
def shuttleMendsSpec : ChangeSpec := { name := "shuttleMends", fn := fun _ => fun
  | [d1, d2, d3] => { results := [.lit (.bool true)], args := [d1, d2, d3] }
  | _ => none }
def shuttleMendsRow : OpenClaim := { program := "ytibddlldgmidlabdoor", sum := "9b7c2f1ec7d0eb26cac45d33af5471bab77c8d9f522ead1785c80ab705e6e9e2", func := "shuttle/shuttletop.ShuttleMends", spec := "shuttleMends", named := ["shuttle/conv.taps"], apart := false, laid := [("shuttle/conv.taps", laid_shuttle_conv_taps)] }
def ShuttleMendsSaid : Prop := shuttleMendsRow.holds Tryd.pinned (OpenSpec.ofChange shuttleMendsSpec)

/-- ITS FALSE NEIGHBOUR: 'it returns false'. Refute it at one input. -/
def shuttleMendsWrong : ChangeSpec := { name := "shuttleMends", fn := fun _ => fun
  | [d1, d2, d3] => { results := [.lit (.bool false)], args := [d1, d2, d3] }
  | _ => none }
def ShuttleMendsWrongFalsely : Prop := shuttleMendsRow.holds Tryd.pinned (OpenSpec.ofChange shuttleMendsWrong)

/- THE SECOND FORM. 'bulk': how many values and letters a reading holds, each counted each time it is reached (what is shared counts as often as it is met; a slice's spare places count too). A statement '..UptoSaid' is the law's where the arguments, and the package variables that the reading takes, are together of bulk at most 1048576: NARROWER than '..Said'. Prove '..Said' where nothing that the law and all that it calls make is longer than what came in: it says more and counts as full. Else prove '..UptoSaid'. A law counts once. -/
mutual
def uptoBulk {H : Type} : DataW H → Nat
  | .lit (.string bytes) => bytes.length + 1
  | .lit _ => 1
  | .nil => 1
  | .ptr d => uptoBulk d + 1
  | .slice elems spare => uptoBulkAll elems + uptoBulkAll spare + 1
  | .agg parts => uptoBulkAll parts + 1
  | .iface _ d => uptoBulk d + 1
  | .map entries => uptoBulkEntries entries + 1
  | .held _ => 1
def uptoBulkAll {H : Type} : List (DataW H) → Nat
  | [] => 0
  | d :: r => uptoBulk d + uptoBulkAll r
def uptoBulkEntries {H : Type} : List (Lit × DataW H) → Nat
  | [] => 0
  | x :: r => uptoBulkEntry x + uptoBulkEntries r
def uptoBulkEntry {H : Type} : Lit × DataW H → Nat
  | (.string bytes, d) => bytes.length + uptoBulk d + 1
  | (_, d) => uptoBulk d + 1
 end
def uptoSmall : (H : Type) → List (DataW H) → Bool := fun _ ds => decide (uptoBulkAll ds ≤ 1048576)
def OpenSpec.upto (s : _root_.Go.ChangeSpec) : _root_.Go.OpenSpec := { _root_.Go.OpenSpec.ofChange s with cond := some uptoSmall }

/-- 'shuttlelaw13.CombineAdds', WHERE WHAT IT READS IS OF BULK AT MOST 1048576: true; the input reads as it did. -/
def combineAddsUptoRow : OpenClaim := { program := "ytibddlldgmidlabdoor", sum := "9b7c2f1ec7d0eb26cac45d33af5471bab77c8d9f522ead1785c80ab705e6e9e2", func := "shuttle/shuttlelaw13.CombineAdds", spec := "combineAdds", named := ["shuttle/conv.taps"], apart := false, laid := [("shuttle/conv.taps", laid_shuttle_conv_taps)], narrowed := true }
def CombineAddsUptoSaid : Prop := combineAddsUptoRow.holds Tryd.pinned (OpenSpec.upto combineAddsSpec)

/-- 'shuttlelaw13.CombineOrder', WHERE WHAT IT READS IS OF BULK AT MOST 1048576: true; the input reads as it did. -/
def combineOrderUptoRow : OpenClaim := { program := "ytibddlldgmidlabdoor", sum := "9b7c2f1ec7d0eb26cac45d33af5471bab77c8d9f522ead1785c80ab705e6e9e2", func := "shuttle/shuttlelaw13.CombineOrder", spec := "combineOrder", named := ["shuttle/conv.taps"], apart := false, laid := [("shuttle/conv.taps", laid_shuttle_conv_taps)], narrowed := true }
def CombineOrderUptoSaid : Prop := combineOrderUptoRow.holds Tryd.pinned (OpenSpec.upto combineOrderSpec)

/-- 'shuttlelaw13.CombineMends', WHERE WHAT IT READS IS OF BULK AT MOST 1048576: true; the input reads as it did. -/
def combineMendsUptoRow : OpenClaim := { program := "ytibddlldgmidlabdoor", sum := "9b7c2f1ec7d0eb26cac45d33af5471bab77c8d9f522ead1785c80ab705e6e9e2", func := "shuttle/shuttlelaw13.CombineMends", spec := "combineMends", named := ["shuttle/conv.taps"], apart := false, laid := [("shuttle/conv.taps", laid_shuttle_conv_taps)], narrowed := true }
def CombineMendsUptoSaid : Prop := combineMendsUptoRow.holds Tryd.pinned (OpenSpec.upto combineMendsSpec)

/-- 'shuttlelaw13.CombineWhole', WHERE WHAT IT READS IS OF BULK AT MOST 1048576: true; the input reads as it did. -/
def combineWholeUptoRow : OpenClaim := { program := "ytibddlldgmidlabdoor", sum := "9b7c2f1ec7d0eb26cac45d33af5471bab77c8d9f522ead1785c80ab705e6e9e2", func := "shuttle/shuttlelaw13.CombineWhole", spec := "combineWhole", named := ["shuttle/conv.taps"], apart := false, laid := [("shuttle/conv.taps", laid_shuttle_conv_taps)], narrowed := true }
def CombineWholeUptoSaid : Prop := combineWholeUptoRow.holds Tryd.pinned (OpenSpec.upto combineWholeSpec)

/-- 'shuttletop.ShuttleMends', WHERE WHAT IT READS IS OF BULK AT MOST 1048576: true; the input reads as it did. -/
def shuttleMendsUptoRow : OpenClaim := { program := "ytibddlldgmidlabdoor", sum := "9b7c2f1ec7d0eb26cac45d33af5471bab77c8d9f522ead1785c80ab705e6e9e2", func := "shuttle/shuttletop.ShuttleMends", spec := "shuttleMends", named := ["shuttle/conv.taps"], apart := false, laid := [("shuttle/conv.taps", laid_shuttle_conv_taps)], narrowed := true }
def ShuttleMendsUptoSaid : Prop := shuttleMendsUptoRow.holds Tryd.pinned (OpenSpec.upto shuttleMendsSpec)

end Rows
end Go.Proofs.YtibddlldgmidlabDoor
