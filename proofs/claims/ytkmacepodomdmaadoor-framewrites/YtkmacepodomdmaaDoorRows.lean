/-
  NARROWER THAN 'FOR EVERY INPUT', by the rows' own cells (each row's printed sentence says how): FrameWrites: laid · FrameReads: laid · PoolKeeps: laid · SenderTries: laid · SenderOld: laid · SenderFull: laid.
  DERIVED. THE GIVEN ROWS OF THIS SEAT. 6 by the template 'for every input the law returns true; each argument reads behind the call as it read before'; 0 by the template 'total and deterministic' (their statements: YtkmacepodomdmaaDoorTotals.lean).
  GIVEN WITH THE SEED: the statements are not yours to turn. If you find one false, say at which input.
  Laid BY PROGRAM, IN A SANDBOX (cutbox-rows.mjs): the forced cells as the released guide's own fill.sh prints them over the translation ee581bc5a8fb7527… (all of the seat's roots in one cut). By AI agents, Wed Nov 11 2026. No macro, syntax, notation, axiom, sorry.
-/
import Derived.Test.YtkmacepodomdmaaDoorChecked
import GoSem.Claim
import GoSem.ClaimJoined
import GoSem.ClaimMapViews
import Derived.JoinedTies
import Derived.KernelRfl
namespace Go.Proofs.YtkmacepodomdmaaDoor
/- THE CELL 'sum', in the pinned program and in every row, IS THE sha256 OF THE DUMP (.gsa) THAT YtkmacepodomdmaaDoorProg.lean LOADS. Nothing in Lean hashes anything: it is a label: what it is worth is what the hold of that sum in a sandbox is worth. -/
noncomputable def Tryd.pinned : Pinned := { name := "ytkmacepodomdmaadoor", sum := "ee581bc5a8fb7527908e646f179dce182178044af3b79b84b9096912c95aa73b", checked := Tryd.checked }
namespace Rows
def none {H : Type} : Left H := { results := [], args := [] }

/- WHAT THE LISTED PACKAGE-LEVEL VARIABLES READ AS WHEN THE CALL BEGINS. Each datum BY PROGRAM (the guide's laid-datum.mjs) off the statement by which the dump's own 'gosem.cut.vars' lays the variable. In a bare row this is a premise. The card (YtkmacepodomdmaaDoorCards.lean) ties it to the program's text. -/
def laid_errors_errorType {H : Type} : DataW H := .iface "internal/reflectlite.rtype" (.agg [.ptr (.lit (.string [101, 114, 114, 111, 114]))])
def laid_shuttle_frame_errKind {H : Type} : DataW H := .iface "*errors.errorString" (.ptr (.agg [.lit (.string [110, 111, 32, 115, 117, 99, 104, 32, 107, 105, 110, 100])]))
def laid_shuttle_frame_errShort {H : Type} : DataW H := .iface "*errors.errorString" (.ptr (.agg [.lit (.string [105, 116, 32, 101, 110, 100, 115, 32, 116, 111, 111, 32, 115, 111, 111, 110])]))
def laid_shuttle_frame_errCheck {H : Type} : DataW H := .iface "*errors.errorString" (.ptr (.agg [.lit (.string [105, 116, 115, 32, 115, 117, 109, 32, 105, 115, 110, 39, 116, 32, 114, 105, 103, 104, 116])]))
def laid_shuttle_frame_errNought {H : Type} : DataW H := .iface "*errors.errorString" (.ptr (.agg [.lit (.string [97, 32, 98, 105, 116, 32, 116, 104, 97, 116, 32, 109, 117, 115, 116, 32, 98, 101, 32, 48, 32, 105, 115, 110, 39, 116])]))
def laid_shuttle_frame_errLong {H : Type} : DataW H := .iface "*errors.errorString" (.ptr (.agg [.lit (.string [109, 111, 114, 101, 32, 98, 121, 116, 101, 115, 32, 116, 104, 97, 110, 32, 97, 32, 109, 101, 115, 115, 97, 103, 101, 32, 109, 97, 121, 32, 104, 97, 118, 101])]))
def laid_shuttle_conv_taps {H : Type} : DataW H := .agg [.lit (.int .i64 79), .lit (.int .i64 87), .lit (.int .i64 109), .lit (.int .i64 121)]

/-- 'shuttlelaw16.FrameWrites': WHATEVER THE INPUT: true; the input reads as it did. -/
def frameWritesSpec : ChangeSpec := { name := "frameWrites", fn := fun _ => fun
  | [d] => { results := [.lit (.bool true)], args := [d] }
  | _ => none }
def frameWritesRow : OpenClaim := { program := "ytkmacepodomdmaadoor", sum := "ee581bc5a8fb7527908e646f179dce182178044af3b79b84b9096912c95aa73b", func := "shuttle/shuttlelaw16.FrameWrites", spec := "frameWrites", inPlace := ["internal/reflectlite.ValueOf", "(internal/reflectlite.Value).Type", "(internal/reflectlite.Value).IsNil", "internal/reflectlite.TypeOf", "(internal/reflectlite.Value).Elem", "(internal/reflectlite.Value).Set"], unfollowed := true, recurses := true, named := ["shuttle/frame.errKind", "shuttle/frame.errShort", "shuttle/frame.errCheck", "shuttle/frame.errNought", "shuttle/frame.errLong", "errors.errorType"], apart := false, laid := [("errors.errorType", laid_errors_errorType), ("shuttle/frame.errKind", laid_shuttle_frame_errKind), ("shuttle/frame.errShort", laid_shuttle_frame_errShort), ("shuttle/frame.errCheck", laid_shuttle_frame_errCheck), ("shuttle/frame.errNought", laid_shuttle_frame_errNought), ("shuttle/frame.errLong", laid_shuttle_frame_errLong)] }
def FrameWritesSaid : Prop := frameWritesRow.holds Tryd.pinned (OpenSpec.ofChange frameWritesSpec)

/-- ITS FALSE NEIGHBOUR: 'it returns false'. Refute it at one input. -/
def frameWritesWrong : ChangeSpec := { name := "frameWrites", fn := fun _ => fun
  | [d] => { results := [.lit (.bool false)], args := [d] }
  | _ => none }
def FrameWritesWrongFalsely : Prop := frameWritesRow.holds Tryd.pinned (OpenSpec.ofChange frameWritesWrong)

/-- 'shuttlelaw16.FrameReads': WHATEVER THE INPUT: true; the input reads as it did. -/
def frameReadsSpec : ChangeSpec := { name := "frameReads", fn := fun _ => fun
  | [d] => { results := [.lit (.bool true)], args := [d] }
  | _ => none }
def frameReadsRow : OpenClaim := { program := "ytkmacepodomdmaadoor", sum := "ee581bc5a8fb7527908e646f179dce182178044af3b79b84b9096912c95aa73b", func := "shuttle/shuttlelaw16.FrameReads", spec := "frameReads", inPlace := ["internal/reflectlite.ValueOf", "(internal/reflectlite.Value).Type", "(internal/reflectlite.Value).IsNil", "internal/reflectlite.TypeOf", "(internal/reflectlite.Value).Elem", "(internal/reflectlite.Value).Set"], unfollowed := true, recurses := true, named := ["shuttle/frame.errKind", "shuttle/frame.errShort", "shuttle/frame.errCheck", "shuttle/frame.errNought", "shuttle/frame.errLong", "errors.errorType"], apart := false, laid := [("errors.errorType", laid_errors_errorType), ("shuttle/frame.errKind", laid_shuttle_frame_errKind), ("shuttle/frame.errShort", laid_shuttle_frame_errShort), ("shuttle/frame.errCheck", laid_shuttle_frame_errCheck), ("shuttle/frame.errNought", laid_shuttle_frame_errNought), ("shuttle/frame.errLong", laid_shuttle_frame_errLong)] }
def FrameReadsSaid : Prop := frameReadsRow.holds Tryd.pinned (OpenSpec.ofChange frameReadsSpec)

/-- ITS FALSE NEIGHBOUR: 'it returns false'. Refute it at one input. -/
def frameReadsWrong : ChangeSpec := { name := "frameReads", fn := fun _ => fun
  | [d] => { results := [.lit (.bool false)], args := [d] }
  | _ => none }
def FrameReadsWrongFalsely : Prop := frameReadsRow.holds Tryd.pinned (OpenSpec.ofChange frameReadsWrong)

/-- 'shuttlelaw18.PoolKeeps': WHATEVER THE INPUT: true; the input reads as it did. -/
def poolKeepsSpec : ChangeSpec := { name := "poolKeeps", fn := fun _ => fun
  | [d1, d2, d3] => { results := [.lit (.bool true)], args := [d1, d2, d3] }
  | _ => none }
def poolKeepsRow : OpenClaim := { program := "ytkmacepodomdmaadoor", sum := "ee581bc5a8fb7527908e646f179dce182178044af3b79b84b9096912c95aa73b", func := "shuttle/shuttlelaw18.PoolKeeps", spec := "poolKeeps", unfollowed := true, recurses := true, named := ["shuttle/conv.taps"], apart := false, laid := [("shuttle/conv.taps", laid_shuttle_conv_taps)] }
def PoolKeepsSaid : Prop := poolKeepsRow.holds Tryd.pinned (OpenSpec.ofChange poolKeepsSpec)

/-- ITS FALSE NEIGHBOUR: 'it returns false'. Refute it at one input. -/
def poolKeepsWrong : ChangeSpec := { name := "poolKeeps", fn := fun _ => fun
  | [d1, d2, d3] => { results := [.lit (.bool false)], args := [d1, d2, d3] }
  | _ => none }
def PoolKeepsWrongFalsely : Prop := poolKeepsRow.holds Tryd.pinned (OpenSpec.ofChange poolKeepsWrong)

/-- 'shuttlelaw23.SenderTries': WHATEVER THE INPUT: true; the input reads as it did. -/
def senderTriesSpec : ChangeSpec := { name := "senderTries", fn := fun _ => fun
  | [d1, d2, d3] => { results := [.lit (.bool true)], args := [d1, d2, d3] }
  | _ => none }
def senderTriesRow : OpenClaim := { program := "ytkmacepodomdmaadoor", sum := "ee581bc5a8fb7527908e646f179dce182178044af3b79b84b9096912c95aa73b", func := "shuttle/shuttlelaw23.SenderTries", spec := "senderTries", recurses := true, named := ["shuttle/conv.taps"], apart := false, laid := [("shuttle/conv.taps", laid_shuttle_conv_taps)] }
def SenderTriesSaid : Prop := senderTriesRow.holds Tryd.pinned (OpenSpec.ofChange senderTriesSpec)

/-- ITS FALSE NEIGHBOUR: 'it returns false'. Refute it at one input. -/
def senderTriesWrong : ChangeSpec := { name := "senderTries", fn := fun _ => fun
  | [d1, d2, d3] => { results := [.lit (.bool false)], args := [d1, d2, d3] }
  | _ => none }
def SenderTriesWrongFalsely : Prop := senderTriesRow.holds Tryd.pinned (OpenSpec.ofChange senderTriesWrong)

/-- 'shuttlelaw23.SenderOld': WHATEVER THE INPUT: true; the input reads as it did. -/
def senderOldSpec : ChangeSpec := { name := "senderOld", fn := fun _ => fun
  | [d1, d2, d3] => { results := [.lit (.bool true)], args := [d1, d2, d3] }
  | _ => none }
def senderOldRow : OpenClaim := { program := "ytkmacepodomdmaadoor", sum := "ee581bc5a8fb7527908e646f179dce182178044af3b79b84b9096912c95aa73b", func := "shuttle/shuttlelaw23.SenderOld", spec := "senderOld", recurses := true, named := ["shuttle/conv.taps"], apart := false, laid := [("shuttle/conv.taps", laid_shuttle_conv_taps)] }
def SenderOldSaid : Prop := senderOldRow.holds Tryd.pinned (OpenSpec.ofChange senderOldSpec)

/-- ITS FALSE NEIGHBOUR: 'it returns false'. Refute it at one input. -/
def senderOldWrong : ChangeSpec := { name := "senderOld", fn := fun _ => fun
  | [d1, d2, d3] => { results := [.lit (.bool false)], args := [d1, d2, d3] }
  | _ => none }
def SenderOldWrongFalsely : Prop := senderOldRow.holds Tryd.pinned (OpenSpec.ofChange senderOldWrong)

/-- 'shuttlelaw23.SenderFull': WHATEVER THE INPUT: true; the input reads as it did. -/
def senderFullSpec : ChangeSpec := { name := "senderFull", fn := fun _ => fun
  | [d1, d2, d3] => { results := [.lit (.bool true)], args := [d1, d2, d3] }
  | _ => none }
def senderFullRow : OpenClaim := { program := "ytkmacepodomdmaadoor", sum := "ee581bc5a8fb7527908e646f179dce182178044af3b79b84b9096912c95aa73b", func := "shuttle/shuttlelaw23.SenderFull", spec := "senderFull", recurses := true, named := ["shuttle/conv.taps"], apart := false, laid := [("shuttle/conv.taps", laid_shuttle_conv_taps)] }
def SenderFullSaid : Prop := senderFullRow.holds Tryd.pinned (OpenSpec.ofChange senderFullSpec)

/-- ITS FALSE NEIGHBOUR: 'it returns false'. Refute it at one input. -/
def senderFullWrong : ChangeSpec := { name := "senderFull", fn := fun _ => fun
  | [d1, d2, d3] => { results := [.lit (.bool false)], args := [d1, d2, d3] }
  | _ => none }
def SenderFullWrongFalsely : Prop := senderFullRow.holds Tryd.pinned (OpenSpec.ofChange senderFullWrong)

/- THE SECOND FORM. 'bulk': how many values and letters a reading holds, each counted each time it is reached (what is shared counts as often as it is met; a slice's spare places count too). A statement '..UptoSaid' is the law's where the arguments, and the package variables that the reading takes, are together of bulk at most 1048576: NARROWER than '..Said'. Prove '..Said' where nothing that the law and all that it calls make is longer than what came in: it says more and counts as full. Else prove '..UptoSaid'. A law counts once. -/
mutual
def uptoBulk {H : Type} : DataW H → Nat
  | .lit (.string bytes) => bytes.length + 1
  | .lit _ => 1
  | .nil => 1
  | .ptr d => uptoBulk d + 1
  | .slice elems spare => uptoBulkAll elems + uptoBulkAll spare + 1
  | .agg parts => uptoBulkAll parts + 1
  | .iface _ d => uptoBulk d + 1
  | .map entries => uptoBulkEntries entries + 1
  | .held _ => 1
def uptoBulkAll {H : Type} : List (DataW H) → Nat
  | [] => 0
  | d :: r => uptoBulk d + uptoBulkAll r
def uptoBulkEntries {H : Type} : List (Lit × DataW H) → Nat
  | [] => 0
  | x :: r => uptoBulkEntry x + uptoBulkEntries r
def uptoBulkEntry {H : Type} : Lit × DataW H → Nat
  | (.string bytes, d) => bytes.length + uptoBulk d + 1
  | (_, d) => uptoBulk d + 1
 end
def uptoSmall : (H : Type) → List (DataW H) → Bool := fun _ ds => decide (uptoBulkAll ds ≤ 1048576)
def OpenSpec.upto (s : _root_.Go.ChangeSpec) : _root_.Go.OpenSpec := { _root_.Go.OpenSpec.ofChange s with cond := some uptoSmall }

/-- 'shuttlelaw16.FrameWrites', WHERE WHAT IT READS IS OF BULK AT MOST 1048576: true; the input reads as it did. -/
def frameWritesUptoRow : OpenClaim := { program := "ytkmacepodomdmaadoor", sum := "ee581bc5a8fb7527908e646f179dce182178044af3b79b84b9096912c95aa73b", func := "shuttle/shuttlelaw16.FrameWrites", spec := "frameWrites", inPlace := ["internal/reflectlite.ValueOf", "(internal/reflectlite.Value).Type", "(internal/reflectlite.Value).IsNil", "internal/reflectlite.TypeOf", "(internal/reflectlite.Value).Elem", "(internal/reflectlite.Value).Set"], unfollowed := true, recurses := true, named := ["shuttle/frame.errKind", "shuttle/frame.errShort", "shuttle/frame.errCheck", "shuttle/frame.errNought", "shuttle/frame.errLong", "errors.errorType"], apart := false, laid := [("errors.errorType", laid_errors_errorType), ("shuttle/frame.errKind", laid_shuttle_frame_errKind), ("shuttle/frame.errShort", laid_shuttle_frame_errShort), ("shuttle/frame.errCheck", laid_shuttle_frame_errCheck), ("shuttle/frame.errNought", laid_shuttle_frame_errNought), ("shuttle/frame.errLong", laid_shuttle_frame_errLong)], narrowed := true }
def FrameWritesUptoSaid : Prop := frameWritesUptoRow.holds Tryd.pinned (OpenSpec.upto frameWritesSpec)

/-- 'shuttlelaw16.FrameReads', WHERE WHAT IT READS IS OF BULK AT MOST 1048576: true; the input reads as it did. -/
def frameReadsUptoRow : OpenClaim := { program := "ytkmacepodomdmaadoor", sum := "ee581bc5a8fb7527908e646f179dce182178044af3b79b84b9096912c95aa73b", func := "shuttle/shuttlelaw16.FrameReads", spec := "frameReads", inPlace := ["internal/reflectlite.ValueOf", "(internal/reflectlite.Value).Type", "(internal/reflectlite.Value).IsNil", "internal/reflectlite.TypeOf", "(internal/reflectlite.Value).Elem", "(internal/reflectlite.Value).Set"], unfollowed := true, recurses := true, named := ["shuttle/frame.errKind", "shuttle/frame.errShort", "shuttle/frame.errCheck", "shuttle/frame.errNought", "shuttle/frame.errLong", "errors.errorType"], apart := false, laid := [("errors.errorType", laid_errors_errorType), ("shuttle/frame.errKind", laid_shuttle_frame_errKind), ("shuttle/frame.errShort", laid_shuttle_frame_errShort), ("shuttle/frame.errCheck", laid_shuttle_frame_errCheck), ("shuttle/frame.errNought", laid_shuttle_frame_errNought), ("shuttle/frame.errLong", laid_shuttle_frame_errLong)], narrowed := true }
def FrameReadsUptoSaid : Prop := frameReadsUptoRow.holds Tryd.pinned (OpenSpec.upto frameReadsSpec)

/-- 'shuttlelaw18.PoolKeeps', WHERE WHAT IT READS IS OF BULK AT MOST 1048576: true; the input reads as it did. -/
def poolKeepsUptoRow : OpenClaim := { program := "ytkmacepodomdmaadoor", sum := "ee581bc5a8fb7527908e646f179dce182178044af3b79b84b9096912c95aa73b", func := "shuttle/shuttlelaw18.PoolKeeps", spec := "poolKeeps", unfollowed := true, recurses := true, named := ["shuttle/conv.taps"], apart := false, laid := [("shuttle/conv.taps", laid_shuttle_conv_taps)], narrowed := true }
def PoolKeepsUptoSaid : Prop := poolKeepsUptoRow.holds Tryd.pinned (OpenSpec.upto poolKeepsSpec)

/-- 'shuttlelaw23.SenderTries', WHERE WHAT IT READS IS OF BULK AT MOST 1048576: true; the input reads as it did. -/
def senderTriesUptoRow : OpenClaim := { program := "ytkmacepodomdmaadoor", sum := "ee581bc5a8fb7527908e646f179dce182178044af3b79b84b9096912c95aa73b", func := "shuttle/shuttlelaw23.SenderTries", spec := "senderTries", recurses := true, named := ["shuttle/conv.taps"], apart := false, laid := [("shuttle/conv.taps", laid_shuttle_conv_taps)], narrowed := true }
def SenderTriesUptoSaid : Prop := senderTriesUptoRow.holds Tryd.pinned (OpenSpec.upto senderTriesSpec)

/-- 'shuttlelaw23.SenderOld', WHERE WHAT IT READS IS OF BULK AT MOST 1048576: true; the input reads as it did. -/
def senderOldUptoRow : OpenClaim := { program := "ytkmacepodomdmaadoor", sum := "ee581bc5a8fb7527908e646f179dce182178044af3b79b84b9096912c95aa73b", func := "shuttle/shuttlelaw23.SenderOld", spec := "senderOld", recurses := true, named := ["shuttle/conv.taps"], apart := false, laid := [("shuttle/conv.taps", laid_shuttle_conv_taps)], narrowed := true }
def SenderOldUptoSaid : Prop := senderOldUptoRow.holds Tryd.pinned (OpenSpec.upto senderOldSpec)

/-- 'shuttlelaw23.SenderFull', WHERE WHAT IT READS IS OF BULK AT MOST 1048576: true; the input reads as it did. -/
def senderFullUptoRow : OpenClaim := { program := "ytkmacepodomdmaadoor", sum := "ee581bc5a8fb7527908e646f179dce182178044af3b79b84b9096912c95aa73b", func := "shuttle/shuttlelaw23.SenderFull", spec := "senderFull", recurses := true, named := ["shuttle/conv.taps"], apart := false, laid := [("shuttle/conv.taps", laid_shuttle_conv_taps)], narrowed := true }
def SenderFullUptoSaid : Prop := senderFullUptoRow.holds Tryd.pinned (OpenSpec.upto senderFullSpec)

end Rows
end Go.Proofs.YtkmacepodomdmaaDoor
