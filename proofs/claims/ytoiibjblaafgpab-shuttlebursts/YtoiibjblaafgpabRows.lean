/-
  No cell of these rows narrows 'for every input' (looked for: loops, veiled, ifaces, maps, wideKeys, modest, calm, conditions, laid).
  DERIVED. THE GIVEN ROWS OF THIS SEAT. 5 by the template 'for every input the law returns true; each argument reads behind the call as it read before'; 0 by the template 'total and deterministic' (their statements: YtoiibjblaafgpabTotals.lean).
  GIVEN WITH THE SEED: the statements are not yours to turn. If you find one false, say at which input.
  Laid BY PROGRAM, IN A SANDBOX (cutbox-rows.mjs): the forced cells as the released guide's own fill.sh prints them over the translation 851048ca0f1b1ed0… (all of the seat's roots in one cut). By AI agents, Wed Nov 11 2026. No macro, syntax, notation, axiom, sorry.
-/
import Derived.Test.YtoiibjblaafgpabChecked
import GoSem.Claim
import GoSem.ClaimJoined
import GoSem.ClaimMapViews
import Derived.JoinedTies
import Derived.KernelRfl
namespace Go.Proofs.Ytoiibjblaafgpab
/- THE CELL 'sum', in the pinned program and in every row, IS THE sha256 OF THE DUMP (.gsa) THAT YtoiibjblaafgpabProg.lean LOADS. Nothing in Lean hashes anything: it is a label: what it is worth is what the hold of that sum in a sandbox is worth. -/
noncomputable def Try.pinned : Pinned := { name := "ytoiibjblaafgpab", sum := "851048ca0f1b1ed0c4ee2a5c68eb29db7f6999217cf7b274c6f4bb233ec631ec", checked := Try.checked }
namespace Rows
def none {H : Type} : Left H := { results := [], args := [] }

/-- 'shuttlelaw34.PiecesSplits': WHATEVER THE INPUT: true; the input reads as it did. -/
def piecesSplitsSpec : ChangeSpec := { name := "piecesSplits", fn := fun _ => fun
  | [d1, d2] => { results := [.lit (.bool true)], args := [d1, d2] }
  | _ => none }
def piecesSplitsRow : OpenClaim := { program := "ytoiibjblaafgpab", sum := "851048ca0f1b1ed0c4ee2a5c68eb29db7f6999217cf7b274c6f4bb233ec631ec", func := "shuttle/shuttlelaw34.PiecesSplits", spec := "piecesSplits", apart := false }
def PiecesSplitsSaid : Prop := piecesSplitsRow.holds Try.pinned (OpenSpec.ofChange piecesSplitsSpec)

/-- ITS FALSE NEIGHBOUR: 'it returns false'. Refute it at one input. -/
def piecesSplitsWrong : ChangeSpec := { name := "piecesSplits", fn := fun _ => fun
  | [d1, d2] => { results := [.lit (.bool false)], args := [d1, d2] }
  | _ => none }
def PiecesSplitsWrongFalsely : Prop := piecesSplitsRow.holds Try.pinned (OpenSpec.ofChange piecesSplitsWrong)

/-- 'shuttlelaw34.PiecesLong': WHATEVER THE INPUT: true; the input reads as it did. -/
def piecesLongSpec : ChangeSpec := { name := "piecesLong", fn := fun _ => fun
  | [d] => { results := [.lit (.bool true)], args := [d] }
  | _ => none }
def piecesLongRow : OpenClaim := { program := "ytoiibjblaafgpab", sum := "851048ca0f1b1ed0c4ee2a5c68eb29db7f6999217cf7b274c6f4bb233ec631ec", func := "shuttle/shuttlelaw34.PiecesLong", spec := "piecesLong", apart := false }
def PiecesLongSaid : Prop := piecesLongRow.holds Try.pinned (OpenSpec.ofChange piecesLongSpec)

/-- ITS FALSE NEIGHBOUR: 'it returns false'. Refute it at one input. -/
def piecesLongWrong : ChangeSpec := { name := "piecesLong", fn := fun _ => fun
  | [d] => { results := [.lit (.bool false)], args := [d] }
  | _ => none }
def PiecesLongWrongFalsely : Prop := piecesLongRow.holds Try.pinned (OpenSpec.ofChange piecesLongWrong)

/-- 'shuttlelaw34.PiecesAgain': WHATEVER THE INPUT: true; the input reads as it did. -/
def piecesAgainSpec : ChangeSpec := { name := "piecesAgain", fn := fun _ => fun
  | [d1, d2] => { results := [.lit (.bool true)], args := [d1, d2] }
  | _ => none }
def piecesAgainRow : OpenClaim := { program := "ytoiibjblaafgpab", sum := "851048ca0f1b1ed0c4ee2a5c68eb29db7f6999217cf7b274c6f4bb233ec631ec", func := "shuttle/shuttlelaw34.PiecesAgain", spec := "piecesAgain", apart := false }
def PiecesAgainSaid : Prop := piecesAgainRow.holds Try.pinned (OpenSpec.ofChange piecesAgainSpec)

/-- ITS FALSE NEIGHBOUR: 'it returns false'. Refute it at one input. -/
def piecesAgainWrong : ChangeSpec := { name := "piecesAgain", fn := fun _ => fun
  | [d1, d2] => { results := [.lit (.bool false)], args := [d1, d2] }
  | _ => none }
def PiecesAgainWrongFalsely : Prop := piecesAgainRow.holds Try.pinned (OpenSpec.ofChange piecesAgainWrong)

/-- 'shuttlelaw34.PiecesSizes': WHATEVER THE INPUT: true; the input reads as it did. -/
def piecesSizesSpec : ChangeSpec := { name := "piecesSizes", fn := fun _ => fun
  | [d] => { results := [.lit (.bool true)], args := [d] }
  | _ => none }
def piecesSizesRow : OpenClaim := { program := "ytoiibjblaafgpab", sum := "851048ca0f1b1ed0c4ee2a5c68eb29db7f6999217cf7b274c6f4bb233ec631ec", func := "shuttle/shuttlelaw34.PiecesSizes", spec := "piecesSizes", apart := false }
def PiecesSizesSaid : Prop := piecesSizesRow.holds Try.pinned (OpenSpec.ofChange piecesSizesSpec)

/-- ITS FALSE NEIGHBOUR: 'it returns false'. Refute it at one input. -/
def piecesSizesWrong : ChangeSpec := { name := "piecesSizes", fn := fun _ => fun
  | [d] => { results := [.lit (.bool false)], args := [d] }
  | _ => none }
def PiecesSizesWrongFalsely : Prop := piecesSizesRow.holds Try.pinned (OpenSpec.ofChange piecesSizesWrong)

/-- 'shuttletop.ShuttleBursts': WHATEVER THE INPUT: true; the input reads as it did. -/
def shuttleBurstsSpec : ChangeSpec := { name := "shuttleBursts", fn := fun _ => fun
  | [d1, d2, d3] => { results := [.lit (.bool true)], args := [d1, d2, d3] }
  | _ => none }
def shuttleBurstsRow : OpenClaim := { program := "ytoiibjblaafgpab", sum := "851048ca0f1b1ed0c4ee2a5c68eb29db7f6999217cf7b274c6f4bb233ec631ec", func := "shuttle/shuttletop.ShuttleBursts", spec := "shuttleBursts", apart := false }
def ShuttleBurstsSaid : Prop := shuttleBurstsRow.holds Try.pinned (OpenSpec.ofChange shuttleBurstsSpec)

/-- ITS FALSE NEIGHBOUR: 'it returns false'. Refute it at one input. -/
def shuttleBurstsWrong : ChangeSpec := { name := "shuttleBursts", fn := fun _ => fun
  | [d1, d2, d3] => { results := [.lit (.bool false)], args := [d1, d2, d3] }
  | _ => none }
def ShuttleBurstsWrongFalsely : Prop := shuttleBurstsRow.holds Try.pinned (OpenSpec.ofChange shuttleBurstsWrong)

/- THE SECOND FORM. 'bulk': how many values and letters a reading holds, each counted each time it is reached (what is shared counts as often as it is met; a slice's spare places count too). A statement '..UptoSaid' is the law's where the arguments, and the package variables that the reading takes, are together of bulk at most 1048576: NARROWER than '..Said'. Prove '..Said' where nothing that the law and all that it calls make is longer than what came in: it says more and counts as full. Else prove '..UptoSaid'. A law counts once. -/
mutual
def uptoBulk {H : Type} : DataW H → Nat
  | .lit (.string bytes) => bytes.length + 1
  | .lit _ => 1
  | .nil => 1
  | .ptr d => uptoBulk d + 1
  | .slice elems spare => uptoBulkAll elems + uptoBulkAll spare + 1
  | .agg parts => uptoBulkAll parts + 1
  | .iface _ d => uptoBulk d + 1
  | .map entries => uptoBulkEntries entries + 1
  | .held _ => 1
def uptoBulkAll {H : Type} : List (DataW H) → Nat
  | [] => 0
  | d :: r => uptoBulk d + uptoBulkAll r
def uptoBulkEntries {H : Type} : List (Lit × DataW H) → Nat
  | [] => 0
  | x :: r => uptoBulkEntry x + uptoBulkEntries r
def uptoBulkEntry {H : Type} : Lit × DataW H → Nat
  | (.string bytes, d) => bytes.length + uptoBulk d + 1
  | (_, d) => uptoBulk d + 1
 end
def uptoSmall : (H : Type) → List (DataW H) → Bool := fun _ ds => decide (uptoBulkAll ds ≤ 1048576)
def OpenSpec.upto (s : _root_.Go.ChangeSpec) : _root_.Go.OpenSpec := { _root_.Go.OpenSpec.ofChange s with cond := some uptoSmall }

/-- 'shuttlelaw34.PiecesSplits', WHERE WHAT IT READS IS OF BULK AT MOST 1048576: true; the input reads as it did. -/
def piecesSplitsUptoRow : OpenClaim := { program := "ytoiibjblaafgpab", sum := "851048ca0f1b1ed0c4ee2a5c68eb29db7f6999217cf7b274c6f4bb233ec631ec", func := "shuttle/shuttlelaw34.PiecesSplits", spec := "piecesSplits", apart := false, narrowed := true }
def PiecesSplitsUptoSaid : Prop := piecesSplitsUptoRow.holds Try.pinned (OpenSpec.upto piecesSplitsSpec)

/-- 'shuttlelaw34.PiecesLong', WHERE WHAT IT READS IS OF BULK AT MOST 1048576: true; the input reads as it did. -/
def piecesLongUptoRow : OpenClaim := { program := "ytoiibjblaafgpab", sum := "851048ca0f1b1ed0c4ee2a5c68eb29db7f6999217cf7b274c6f4bb233ec631ec", func := "shuttle/shuttlelaw34.PiecesLong", spec := "piecesLong", apart := false, narrowed := true }
def PiecesLongUptoSaid : Prop := piecesLongUptoRow.holds Try.pinned (OpenSpec.upto piecesLongSpec)

/-- 'shuttlelaw34.PiecesAgain', WHERE WHAT IT READS IS OF BULK AT MOST 1048576: true; the input reads as it did. -/
def piecesAgainUptoRow : OpenClaim := { program := "ytoiibjblaafgpab", sum := "851048ca0f1b1ed0c4ee2a5c68eb29db7f6999217cf7b274c6f4bb233ec631ec", func := "shuttle/shuttlelaw34.PiecesAgain", spec := "piecesAgain", apart := false, narrowed := true }
def PiecesAgainUptoSaid : Prop := piecesAgainUptoRow.holds Try.pinned (OpenSpec.upto piecesAgainSpec)

/-- 'shuttlelaw34.PiecesSizes', WHERE WHAT IT READS IS OF BULK AT MOST 1048576: true; the input reads as it did. -/
def piecesSizesUptoRow : OpenClaim := { program := "ytoiibjblaafgpab", sum := "851048ca0f1b1ed0c4ee2a5c68eb29db7f6999217cf7b274c6f4bb233ec631ec", func := "shuttle/shuttlelaw34.PiecesSizes", spec := "piecesSizes", apart := false, narrowed := true }
def PiecesSizesUptoSaid : Prop := piecesSizesUptoRow.holds Try.pinned (OpenSpec.upto piecesSizesSpec)

/-- 'shuttletop.ShuttleBursts', WHERE WHAT IT READS IS OF BULK AT MOST 1048576: true; the input reads as it did. -/
def shuttleBurstsUptoRow : OpenClaim := { program := "ytoiibjblaafgpab", sum := "851048ca0f1b1ed0c4ee2a5c68eb29db7f6999217cf7b274c6f4bb233ec631ec", func := "shuttle/shuttletop.ShuttleBursts", spec := "shuttleBursts", apart := false, narrowed := true }
def ShuttleBurstsUptoSaid : Prop := shuttleBurstsUptoRow.holds Try.pinned (OpenSpec.upto shuttleBurstsSpec)

end Rows
end Go.Proofs.Ytoiibjblaafgpab
