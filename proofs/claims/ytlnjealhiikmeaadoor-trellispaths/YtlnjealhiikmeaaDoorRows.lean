/-
  NARROWER THAN 'FOR EVERY INPUT', by the rows' own cells (each row's printed sentence says how): ConvSteps: laid · ConvCodes: laid · ConvAdds: laid · ConvAlone: laid · ConvLate: laid · TrellisEdges: laid · TrellisPaths: laid · TrellisBack: laid.
  DERIVED. THE GIVEN ROWS OF THIS SEAT. 8 by the template 'for every input the law returns true; each argument reads behind the call as it read before'; 0 by the template 'total and deterministic' (their statements: YtlnjealhiikmeaaDoorTotals.lean).
  GIVEN WITH THE SEED: the statements are not yours to turn. If you find one false, say at which input.
  Laid BY PROGRAM, IN A SANDBOX (cutbox-rows.mjs): the forced cells as the released guide's own fill.sh prints them over the translation db0b30d6a4124792… (all of the seat's roots in one cut). By AI agents, Wed Nov 11 2026. No macro, syntax, notation, axiom, sorry.
-/
import Derived.Test.YtlnjealhiikmeaaDoorChecked
import GoSem.Claim
import GoSem.ClaimJoined
import GoSem.ClaimMapViews
import Derived.JoinedTies
import Derived.KernelRfl
namespace Go.Proofs.YtlnjealhiikmeaaDoor
/- THE CELL 'sum', in the pinned program and in every row, IS THE sha256 OF THE DUMP (.gsa) THAT YtlnjealhiikmeaaDoorProg.lean LOADS. Nothing in Lean hashes anything: it is a label: what it is worth is what the hold of that sum in a sandbox is worth. -/
noncomputable def Tryd.pinned : Pinned := { name := "ytlnjealhiikmeaadoor", sum := "db0b30d6a4124792cab440a10da4b3c8aa36c713df9dc78555544541a3276d34", checked := Tryd.checked }
namespace Rows
def none {H : Type} : Left H := { results := [], args := [] }

/- WHAT THE LISTED PACKAGE-LEVEL VARIABLES READ AS WHEN THE CALL BEGINS. Each datum BY PROGRAM (the guide's laid-datum.mjs) off the statement by which the dump's own 'gosem.cut.vars' lays the variable. In a bare row this is a premise. The card (YtlnjealhiikmeaaDoorCards.lean) ties it to the program's text. -/
def laid_shuttle_conv_taps {H : Type} : DataW H := .agg [.lit (.int .i64 79), .lit (.int .i64 87), .lit (.int .i64 109), .lit (.int .i64 121)]

/-- 'shuttlelaw06.ConvSteps': WHATEVER THE INPUT: true; the input reads as it did. -/
def convStepsSpec : ChangeSpec := { name := "convSteps", fn := fun _ => fun
  | [d1, d2, d3] => { results := [.lit (.bool true)], args := [d1, d2, d3] }
  | _ => none }
def convStepsRow : OpenClaim := { program := "ytlnjealhiikmeaadoor", sum := "db0b30d6a4124792cab440a10da4b3c8aa36c713df9dc78555544541a3276d34", func := "shuttle/shuttlelaw06.ConvSteps", spec := "convSteps", named := ["shuttle/conv.taps"], apart := false, laid := [("shuttle/conv.taps", laid_shuttle_conv_taps)] }
def ConvStepsSaid : Prop := convStepsRow.holds Tryd.pinned (OpenSpec.ofChange convStepsSpec)

/-- ITS FALSE NEIGHBOUR: 'it returns false'. Refute it at one input. -/
def convStepsWrong : ChangeSpec := { name := "convSteps", fn := fun _ => fun
  | [d1, d2, d3] => { results := [.lit (.bool false)], args := [d1, d2, d3] }
  | _ => none }
def ConvStepsWrongFalsely : Prop := convStepsRow.holds Tryd.pinned (OpenSpec.ofChange convStepsWrong)

/-- 'shuttlelaw06.ConvCodes': WHATEVER THE INPUT: true; the input reads as it did. -/
def convCodesSpec : ChangeSpec := { name := "convCodes", fn := fun _ => fun
  | [d] => { results := [.lit (.bool true)], args := [d] }
  | _ => none }
def convCodesRow : OpenClaim := { program := "ytlnjealhiikmeaadoor", sum := "db0b30d6a4124792cab440a10da4b3c8aa36c713df9dc78555544541a3276d34", func := "shuttle/shuttlelaw06.ConvCodes", spec := "convCodes", named := ["shuttle/conv.taps"], apart := false, laid := [("shuttle/conv.taps", laid_shuttle_conv_taps)] }
def ConvCodesSaid : Prop := convCodesRow.holds Tryd.pinned (OpenSpec.ofChange convCodesSpec)

/-- ITS FALSE NEIGHBOUR: 'it returns false'. Refute it at one input. -/
def convCodesWrong : ChangeSpec := { name := "convCodes", fn := fun _ => fun
  | [d] => { results := [.lit (.bool false)], args := [d] }
  | _ => none }
def ConvCodesWrongFalsely : Prop := convCodesRow.holds Tryd.pinned (OpenSpec.ofChange convCodesWrong)

/-- 'shuttlelaw06.ConvAdds': WHATEVER THE INPUT: true; the input reads as it did. -/
def convAddsSpec : ChangeSpec := { name := "convAdds", fn := fun _ => fun
  | [d1, d2] => { results := [.lit (.bool true)], args := [d1, d2] }
  | _ => none }
def convAddsRow : OpenClaim := { program := "ytlnjealhiikmeaadoor", sum := "db0b30d6a4124792cab440a10da4b3c8aa36c713df9dc78555544541a3276d34", func := "shuttle/shuttlelaw06.ConvAdds", spec := "convAdds", named := ["shuttle/conv.taps"], apart := false, laid := [("shuttle/conv.taps", laid_shuttle_conv_taps)] }
def ConvAddsSaid : Prop := convAddsRow.holds Tryd.pinned (OpenSpec.ofChange convAddsSpec)

/-- ITS FALSE NEIGHBOUR: 'it returns false'. Refute it at one input. -/
def convAddsWrong : ChangeSpec := { name := "convAdds", fn := fun _ => fun
  | [d1, d2] => { results := [.lit (.bool false)], args := [d1, d2] }
  | _ => none }
def ConvAddsWrongFalsely : Prop := convAddsRow.holds Tryd.pinned (OpenSpec.ofChange convAddsWrong)

/-- 'shuttlelaw06.ConvAlone': WHATEVER THE INPUT: true; the input reads as it did. -/
def convAloneSpec : ChangeSpec := { name := "convAlone", fn := fun _ => fun
  | [d1, d2, d3] => { results := [.lit (.bool true)], args := [d1, d2, d3] }
  | _ => none }
def convAloneRow : OpenClaim := { program := "ytlnjealhiikmeaadoor", sum := "db0b30d6a4124792cab440a10da4b3c8aa36c713df9dc78555544541a3276d34", func := "shuttle/shuttlelaw06.ConvAlone", spec := "convAlone", named := ["shuttle/conv.taps"], apart := false, laid := [("shuttle/conv.taps", laid_shuttle_conv_taps)] }
def ConvAloneSaid : Prop := convAloneRow.holds Tryd.pinned (OpenSpec.ofChange convAloneSpec)

/-- ITS FALSE NEIGHBOUR: 'it returns false'. Refute it at one input. -/
def convAloneWrong : ChangeSpec := { name := "convAlone", fn := fun _ => fun
  | [d1, d2, d3] => { results := [.lit (.bool false)], args := [d1, d2, d3] }
  | _ => none }
def ConvAloneWrongFalsely : Prop := convAloneRow.holds Tryd.pinned (OpenSpec.ofChange convAloneWrong)

/-- 'shuttlelaw06.ConvLate': WHATEVER THE INPUT: true; the input reads as it did. -/
def convLateSpec : ChangeSpec := { name := "convLate", fn := fun _ => fun
  | [d1, d2] => { results := [.lit (.bool true)], args := [d1, d2] }
  | _ => none }
def convLateRow : OpenClaim := { program := "ytlnjealhiikmeaadoor", sum := "db0b30d6a4124792cab440a10da4b3c8aa36c713df9dc78555544541a3276d34", func := "shuttle/shuttlelaw06.ConvLate", spec := "convLate", named := ["shuttle/conv.taps"], apart := false, laid := [("shuttle/conv.taps", laid_shuttle_conv_taps)] }
def ConvLateSaid : Prop := convLateRow.holds Tryd.pinned (OpenSpec.ofChange convLateSpec)

/-- ITS FALSE NEIGHBOUR: 'it returns false'. Refute it at one input. -/
def convLateWrong : ChangeSpec := { name := "convLate", fn := fun _ => fun
  | [d1, d2] => { results := [.lit (.bool false)], args := [d1, d2] }
  | _ => none }
def ConvLateWrongFalsely : Prop := convLateRow.holds Tryd.pinned (OpenSpec.ofChange convLateWrong)

/-- 'shuttlelaw07.TrellisEdges': WHATEVER THE INPUT: true; the input reads as it did. -/
def trellisEdgesSpec : ChangeSpec := { name := "trellisEdges", fn := fun _ => fun
  | [d] => { results := [.lit (.bool true)], args := [d] }
  | _ => none }
def trellisEdgesRow : OpenClaim := { program := "ytlnjealhiikmeaadoor", sum := "db0b30d6a4124792cab440a10da4b3c8aa36c713df9dc78555544541a3276d34", func := "shuttle/shuttlelaw07.TrellisEdges", spec := "trellisEdges", named := ["shuttle/conv.taps"], apart := false, laid := [("shuttle/conv.taps", laid_shuttle_conv_taps)] }
def TrellisEdgesSaid : Prop := trellisEdgesRow.holds Tryd.pinned (OpenSpec.ofChange trellisEdgesSpec)

/-- ITS FALSE NEIGHBOUR: 'it returns false'. Refute it at one input. -/
def trellisEdgesWrong : ChangeSpec := { name := "trellisEdges", fn := fun _ => fun
  | [d] => { results := [.lit (.bool false)], args := [d] }
  | _ => none }
def TrellisEdgesWrongFalsely : Prop := trellisEdgesRow.holds Tryd.pinned (OpenSpec.ofChange trellisEdgesWrong)

/-- 'shuttlelaw07.TrellisPaths': WHATEVER THE INPUT: true; the input reads as it did. -/
def trellisPathsSpec : ChangeSpec := { name := "trellisPaths", fn := fun _ => fun
  | [d] => { results := [.lit (.bool true)], args := [d] }
  | _ => none }
def trellisPathsRow : OpenClaim := { program := "ytlnjealhiikmeaadoor", sum := "db0b30d6a4124792cab440a10da4b3c8aa36c713df9dc78555544541a3276d34", func := "shuttle/shuttlelaw07.TrellisPaths", spec := "trellisPaths", named := ["shuttle/conv.taps"], apart := false, laid := [("shuttle/conv.taps", laid_shuttle_conv_taps)] }
def TrellisPathsSaid : Prop := trellisPathsRow.holds Tryd.pinned (OpenSpec.ofChange trellisPathsSpec)

/-- ITS FALSE NEIGHBOUR: 'it returns false'. Refute it at one input. -/
def trellisPathsWrong : ChangeSpec := { name := "trellisPaths", fn := fun _ => fun
  | [d] => { results := [.lit (.bool false)], args := [d] }
  | _ => none }
def TrellisPathsWrongFalsely : Prop := trellisPathsRow.holds Tryd.pinned (OpenSpec.ofChange trellisPathsWrong)

/-- 'shuttlelaw07.TrellisBack': WHATEVER THE INPUT: true; the input reads as it did. -/
def trellisBackSpec : ChangeSpec := { name := "trellisBack", fn := fun _ => fun
  | [d] => { results := [.lit (.bool true)], args := [d] }
  | _ => none }
def trellisBackRow : OpenClaim := { program := "ytlnjealhiikmeaadoor", sum := "db0b30d6a4124792cab440a10da4b3c8aa36c713df9dc78555544541a3276d34", func := "shuttle/shuttlelaw07.TrellisBack", spec := "trellisBack", named := ["shuttle/conv.taps"], apart := false, laid := [("shuttle/conv.taps", laid_shuttle_conv_taps)] }
def TrellisBackSaid : Prop := trellisBackRow.holds Tryd.pinned (OpenSpec.ofChange trellisBackSpec)

/-- ITS FALSE NEIGHBOUR: 'it returns false'. Refute it at one input. -/
def trellisBackWrong : ChangeSpec := { name := "trellisBack", fn := fun _ => fun
  | [d] => { results := [.lit (.bool false)], args := [d] }
  | _ => none }
def TrellisBackWrongFalsely : Prop := trellisBackRow.holds Tryd.pinned (OpenSpec.ofChange trellisBackWrong)

/- THE SECOND FORM. 'bulk': how many values and letters a reading holds, each counted each time it is reached (what is shared counts as often as it is met; a slice's spare places count too). A statement '..UptoSaid' is the law's where the arguments, and the package variables that the reading takes, are together of bulk at most 1048576: NARROWER than '..Said'. Prove '..Said' where nothing that the law and all that it calls make is longer than what came in: it says more and counts as full. Else prove '..UptoSaid'. A law counts once. -/
mutual
def uptoBulk {H : Type} : DataW H → Nat
  | .lit (.string bytes) => bytes.length + 1
  | .lit _ => 1
  | .nil => 1
  | .ptr d => uptoBulk d + 1
  | .slice elems spare => uptoBulkAll elems + uptoBulkAll spare + 1
  | .agg parts => uptoBulkAll parts + 1
  | .iface _ d => uptoBulk d + 1
  | .map entries => uptoBulkEntries entries + 1
  | .held _ => 1
def uptoBulkAll {H : Type} : List (DataW H) → Nat
  | [] => 0
  | d :: r => uptoBulk d + uptoBulkAll r
def uptoBulkEntries {H : Type} : List (Lit × DataW H) → Nat
  | [] => 0
  | x :: r => uptoBulkEntry x + uptoBulkEntries r
def uptoBulkEntry {H : Type} : Lit × DataW H → Nat
  | (.string bytes, d) => bytes.length + uptoBulk d + 1
  | (_, d) => uptoBulk d + 1
 end
def uptoSmall : (H : Type) → List (DataW H) → Bool := fun _ ds => decide (uptoBulkAll ds ≤ 1048576)
def OpenSpec.upto (s : _root_.Go.ChangeSpec) : _root_.Go.OpenSpec := { _root_.Go.OpenSpec.ofChange s with cond := some uptoSmall }

/-- 'shuttlelaw06.ConvSteps', WHERE WHAT IT READS IS OF BULK AT MOST 1048576: true; the input reads as it did. -/
def convStepsUptoRow : OpenClaim := { program := "ytlnjealhiikmeaadoor", sum := "db0b30d6a4124792cab440a10da4b3c8aa36c713df9dc78555544541a3276d34", func := "shuttle/shuttlelaw06.ConvSteps", spec := "convSteps", named := ["shuttle/conv.taps"], apart := false, laid := [("shuttle/conv.taps", laid_shuttle_conv_taps)], narrowed := true }
def ConvStepsUptoSaid : Prop := convStepsUptoRow.holds Tryd.pinned (OpenSpec.upto convStepsSpec)

/-- 'shuttlelaw06.ConvCodes', WHERE WHAT IT READS IS OF BULK AT MOST 1048576: true; the input reads as it did. -/
def convCodesUptoRow : OpenClaim := { program := "ytlnjealhiikmeaadoor", sum := "db0b30d6a4124792cab440a10da4b3c8aa36c713df9dc78555544541a3276d34", func := "shuttle/shuttlelaw06.ConvCodes", spec := "convCodes", named := ["shuttle/conv.taps"], apart := false, laid := [("shuttle/conv.taps", laid_shuttle_conv_taps)], narrowed := true }
def ConvCodesUptoSaid : Prop := convCodesUptoRow.holds Tryd.pinned (OpenSpec.upto convCodesSpec)

/-- 'shuttlelaw06.ConvAdds', WHERE WHAT IT READS IS OF BULK AT MOST 1048576: true; the input reads as it did. -/
def convAddsUptoRow : OpenClaim := { program := "ytlnjealhiikmeaadoor", sum := "db0b30d6a4124792cab440a10da4b3c8aa36c713df9dc78555544541a3276d34", func := "shuttle/shuttlelaw06.ConvAdds", spec := "convAdds", named := ["shuttle/conv.taps"], apart := false, laid := [("shuttle/conv.taps", laid_shuttle_conv_taps)], narrowed := true }
def ConvAddsUptoSaid : Prop := convAddsUptoRow.holds Tryd.pinned (OpenSpec.upto convAddsSpec)

/-- 'shuttlelaw06.ConvAlone', WHERE WHAT IT READS IS OF BULK AT MOST 1048576: true; the input reads as it did. -/
def convAloneUptoRow : OpenClaim := { program := "ytlnjealhiikmeaadoor", sum := "db0b30d6a4124792cab440a10da4b3c8aa36c713df9dc78555544541a3276d34", func := "shuttle/shuttlelaw06.ConvAlone", spec := "convAlone", named := ["shuttle/conv.taps"], apart := false, laid := [("shuttle/conv.taps", laid_shuttle_conv_taps)], narrowed := true }
def ConvAloneUptoSaid : Prop := convAloneUptoRow.holds Tryd.pinned (OpenSpec.upto convAloneSpec)

/-- 'shuttlelaw06.ConvLate', WHERE WHAT IT READS IS OF BULK AT MOST 1048576: true; the input reads as it did. -/
def convLateUptoRow : OpenClaim := { program := "ytlnjealhiikmeaadoor", sum := "db0b30d6a4124792cab440a10da4b3c8aa36c713df9dc78555544541a3276d34", func := "shuttle/shuttlelaw06.ConvLate", spec := "convLate", named := ["shuttle/conv.taps"], apart := false, laid := [("shuttle/conv.taps", laid_shuttle_conv_taps)], narrowed := true }
def ConvLateUptoSaid : Prop := convLateUptoRow.holds Tryd.pinned (OpenSpec.upto convLateSpec)

/-- 'shuttlelaw07.TrellisEdges', WHERE WHAT IT READS IS OF BULK AT MOST 1048576: true; the input reads as it did. -/
def trellisEdgesUptoRow : OpenClaim := { program := "ytlnjealhiikmeaadoor", sum := "db0b30d6a4124792cab440a10da4b3c8aa36c713df9dc78555544541a3276d34", func := "shuttle/shuttlelaw07.TrellisEdges", spec := "trellisEdges", named := ["shuttle/conv.taps"], apart := false, laid := [("shuttle/conv.taps", laid_shuttle_conv_taps)], narrowed := true }
def TrellisEdgesUptoSaid : Prop := trellisEdgesUptoRow.holds Tryd.pinned (OpenSpec.upto trellisEdgesSpec)

/-- 'shuttlelaw07.TrellisPaths', WHERE WHAT IT READS IS OF BULK AT MOST 1048576: true; the input reads as it did. -/
def trellisPathsUptoRow : OpenClaim := { program := "ytlnjealhiikmeaadoor", sum := "db0b30d6a4124792cab440a10da4b3c8aa36c713df9dc78555544541a3276d34", func := "shuttle/shuttlelaw07.TrellisPaths", spec := "trellisPaths", named := ["shuttle/conv.taps"], apart := false, laid := [("shuttle/conv.taps", laid_shuttle_conv_taps)], narrowed := true }
def TrellisPathsUptoSaid : Prop := trellisPathsUptoRow.holds Tryd.pinned (OpenSpec.upto trellisPathsSpec)

/-- 'shuttlelaw07.TrellisBack', WHERE WHAT IT READS IS OF BULK AT MOST 1048576: true; the input reads as it did. -/
def trellisBackUptoRow : OpenClaim := { program := "ytlnjealhiikmeaadoor", sum := "db0b30d6a4124792cab440a10da4b3c8aa36c713df9dc78555544541a3276d34", func := "shuttle/shuttlelaw07.TrellisBack", spec := "trellisBack", named := ["shuttle/conv.taps"], apart := false, laid := [("shuttle/conv.taps", laid_shuttle_conv_taps)], narrowed := true }
def TrellisBackUptoSaid : Prop := trellisBackUptoRow.holds Tryd.pinned (OpenSpec.upto trellisBackSpec)

end Rows
end Go.Proofs.YtlnjealhiikmeaaDoor
