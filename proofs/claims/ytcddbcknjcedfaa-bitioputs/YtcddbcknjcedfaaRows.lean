/-
  No cell of these rows narrows 'for every input' (looked for: loops, veiled, ifaces, maps, wideKeys, modest, calm, conditions, laid).
  DERIVED. THE GIVEN ROWS OF THIS SEAT. 12 by the template 'for every input the law returns true; each argument reads behind the call as it read before'; 0 by the template 'total and deterministic' (their statements: YtcddbcknjcedfaaTotals.lean).
  GIVEN WITH THE SEED: the statements are not yours to turn. If you find one false, say at which input.
  Laid BY PROGRAM, IN A SANDBOX (cutbox-rows.mjs): the forced cells as the released guide's own fill.sh prints them over the translation ebd5d764f0a67949… (all of the seat's roots in one cut). By AI agents, Wed Nov 11 2026. No macro, syntax, notation, axiom, sorry.
-/
import Derived.Test.YtcddbcknjcedfaaChecked
import GoSem.Claim
import GoSem.ClaimJoined
import GoSem.ClaimMapViews
import Derived.JoinedTies
import Derived.KernelRfl
namespace Go.Proofs.Ytcddbcknjcedfaa
/- THE CELL 'sum', in the pinned program and in every row, IS THE sha256 OF THE DUMP (.gsa) THAT YtcddbcknjcedfaaProg.lean LOADS. Nothing in Lean hashes anything: it is a label: what it is worth is what the hold of that sum in a sandbox is worth. -/
noncomputable def Try.pinned : Pinned := { name := "ytcddbcknjcedfaa", sum := "ebd5d764f0a679498be78dd52f417df883d76cbef5336f3f842ea8dbbb54104a", checked := Try.checked }
namespace Rows
def none {H : Type} : Left H := { results := [], args := [] }

/-- 'shuttlelaw01.BitsBytes': WHATEVER THE INPUT: true; the input reads as it did. -/
def bitsBytesSpec : ChangeSpec := { name := "bitsBytes", fn := fun _ => fun
  | [d] => { results := [.lit (.bool true)], args := [d] }
  | _ => none }
def bitsBytesRow : OpenClaim := { program := "ytcddbcknjcedfaa", sum := "ebd5d764f0a679498be78dd52f417df883d76cbef5336f3f842ea8dbbb54104a", func := "shuttle/shuttlelaw01.BitsBytes", spec := "bitsBytes", apart := false }
def BitsBytesSaid : Prop := bitsBytesRow.holds Try.pinned (OpenSpec.ofChange bitsBytesSpec)

/-- ITS FALSE NEIGHBOUR: 'it returns false'. Refute it at one input. -/
def bitsBytesWrong : ChangeSpec := { name := "bitsBytes", fn := fun _ => fun
  | [d] => { results := [.lit (.bool false)], args := [d] }
  | _ => none }
def BitsBytesWrongFalsely : Prop := bitsBytesRow.holds Try.pinned (OpenSpec.ofChange bitsBytesWrong)

/-- 'shuttlelaw01.BitsLists': WHATEVER THE INPUT: true; the input reads as it did. -/
def bitsListsSpec : ChangeSpec := { name := "bitsLists", fn := fun _ => fun
  | [d1, d2] => { results := [.lit (.bool true)], args := [d1, d2] }
  | _ => none }
def bitsListsRow : OpenClaim := { program := "ytcddbcknjcedfaa", sum := "ebd5d764f0a679498be78dd52f417df883d76cbef5336f3f842ea8dbbb54104a", func := "shuttle/shuttlelaw01.BitsLists", spec := "bitsLists", apart := false }
def BitsListsSaid : Prop := bitsListsRow.holds Try.pinned (OpenSpec.ofChange bitsListsSpec)

/-- ITS FALSE NEIGHBOUR: 'it returns false'. Refute it at one input. -/
def bitsListsWrong : ChangeSpec := { name := "bitsLists", fn := fun _ => fun
  | [d1, d2] => { results := [.lit (.bool false)], args := [d1, d2] }
  | _ => none }
def BitsListsWrongFalsely : Prop := bitsListsRow.holds Try.pinned (OpenSpec.ofChange bitsListsWrong)

/-- 'shuttlelaw01.BitsApart': WHATEVER THE INPUT: true; the input reads as it did. -/
def bitsApartSpec : ChangeSpec := { name := "bitsApart", fn := fun _ => fun
  | [d1, d2, d3] => { results := [.lit (.bool true)], args := [d1, d2, d3] }
  | _ => none }
def bitsApartRow : OpenClaim := { program := "ytcddbcknjcedfaa", sum := "ebd5d764f0a679498be78dd52f417df883d76cbef5336f3f842ea8dbbb54104a", func := "shuttle/shuttlelaw01.BitsApart", spec := "bitsApart", apart := false }
def BitsApartSaid : Prop := bitsApartRow.holds Try.pinned (OpenSpec.ofChange bitsApartSpec)

/-- ITS FALSE NEIGHBOUR: 'it returns false'. Refute it at one input. -/
def bitsApartWrong : ChangeSpec := { name := "bitsApart", fn := fun _ => fun
  | [d1, d2, d3] => { results := [.lit (.bool false)], args := [d1, d2, d3] }
  | _ => none }
def BitsApartWrongFalsely : Prop := bitsApartRow.holds Try.pinned (OpenSpec.ofChange bitsApartWrong)

/-- 'shuttlelaw01.BitsTurns': WHATEVER THE INPUT: true; the input reads as it did. -/
def bitsTurnsSpec : ChangeSpec := { name := "bitsTurns", fn := fun _ => fun
  | [d1, d2] => { results := [.lit (.bool true)], args := [d1, d2] }
  | _ => none }
def bitsTurnsRow : OpenClaim := { program := "ytcddbcknjcedfaa", sum := "ebd5d764f0a679498be78dd52f417df883d76cbef5336f3f842ea8dbbb54104a", func := "shuttle/shuttlelaw01.BitsTurns", spec := "bitsTurns", apart := false }
def BitsTurnsSaid : Prop := bitsTurnsRow.holds Try.pinned (OpenSpec.ofChange bitsTurnsSpec)

/-- ITS FALSE NEIGHBOUR: 'it returns false'. Refute it at one input. -/
def bitsTurnsWrong : ChangeSpec := { name := "bitsTurns", fn := fun _ => fun
  | [d1, d2] => { results := [.lit (.bool false)], args := [d1, d2] }
  | _ => none }
def BitsTurnsWrongFalsely : Prop := bitsTurnsRow.holds Try.pinned (OpenSpec.ofChange bitsTurnsWrong)

/-- 'shuttlelaw02.BitioPuts': WHATEVER THE INPUT: true; the input reads as it did. -/
def bitioPutsSpec : ChangeSpec := { name := "bitioPuts", fn := fun _ => fun
  | [d] => { results := [.lit (.bool true)], args := [d] }
  | _ => none }
def bitioPutsRow : OpenClaim := { program := "ytcddbcknjcedfaa", sum := "ebd5d764f0a679498be78dd52f417df883d76cbef5336f3f842ea8dbbb54104a", func := "shuttle/shuttlelaw02.BitioPuts", spec := "bitioPuts", apart := false }
def BitioPutsSaid : Prop := bitioPutsRow.holds Try.pinned (OpenSpec.ofChange bitioPutsSpec)

/-- ITS FALSE NEIGHBOUR: 'it returns false'. Refute it at one input. -/
def bitioPutsWrong : ChangeSpec := { name := "bitioPuts", fn := fun _ => fun
  | [d] => { results := [.lit (.bool false)], args := [d] }
  | _ => none }
def BitioPutsWrongFalsely : Prop := bitioPutsRow.holds Try.pinned (OpenSpec.ofChange bitioPutsWrong)

/-- 'shuttlelaw02.BitioTakes': WHATEVER THE INPUT: true; the input reads as it did. -/
def bitioTakesSpec : ChangeSpec := { name := "bitioTakes", fn := fun _ => fun
  | [d1, d2, d3] => { results := [.lit (.bool true)], args := [d1, d2, d3] }
  | _ => none }
def bitioTakesRow : OpenClaim := { program := "ytcddbcknjcedfaa", sum := "ebd5d764f0a679498be78dd52f417df883d76cbef5336f3f842ea8dbbb54104a", func := "shuttle/shuttlelaw02.BitioTakes", spec := "bitioTakes", apart := false }
def BitioTakesSaid : Prop := bitioTakesRow.holds Try.pinned (OpenSpec.ofChange bitioTakesSpec)

/-- ITS FALSE NEIGHBOUR: 'it returns false'. Refute it at one input. -/
def bitioTakesWrong : ChangeSpec := { name := "bitioTakes", fn := fun _ => fun
  | [d1, d2, d3] => { results := [.lit (.bool false)], args := [d1, d2, d3] }
  | _ => none }
def BitioTakesWrongFalsely : Prop := bitioTakesRow.holds Try.pinned (OpenSpec.ofChange bitioTakesWrong)

/-- 'shuttlelaw02.BitioSame': WHATEVER THE INPUT: true; the input reads as it did. -/
def bitioSameSpec : ChangeSpec := { name := "bitioSame", fn := fun _ => fun
  | [d1, d2, d3] => { results := [.lit (.bool true)], args := [d1, d2, d3] }
  | _ => none }
def bitioSameRow : OpenClaim := { program := "ytcddbcknjcedfaa", sum := "ebd5d764f0a679498be78dd52f417df883d76cbef5336f3f842ea8dbbb54104a", func := "shuttle/shuttlelaw02.BitioSame", spec := "bitioSame", apart := false }
def BitioSameSaid : Prop := bitioSameRow.holds Try.pinned (OpenSpec.ofChange bitioSameSpec)

/-- ITS FALSE NEIGHBOUR: 'it returns false'. Refute it at one input. -/
def bitioSameWrong : ChangeSpec := { name := "bitioSame", fn := fun _ => fun
  | [d1, d2, d3] => { results := [.lit (.bool false)], args := [d1, d2, d3] }
  | _ => none }
def BitioSameWrongFalsely : Prop := bitioSameRow.holds Try.pinned (OpenSpec.ofChange bitioSameWrong)

/-- 'shuttlelaw03.Gf2Times': WHATEVER THE INPUT: true; the input reads as it did. -/
def gf2TimesSpec : ChangeSpec := { name := "gf2Times", fn := fun _ => fun
  | [d1, d2] => { results := [.lit (.bool true)], args := [d1, d2] }
  | _ => none }
def gf2TimesRow : OpenClaim := { program := "ytcddbcknjcedfaa", sum := "ebd5d764f0a679498be78dd52f417df883d76cbef5336f3f842ea8dbbb54104a", func := "shuttle/shuttlelaw03.Gf2Times", spec := "gf2Times", apart := false }
def Gf2TimesSaid : Prop := gf2TimesRow.holds Try.pinned (OpenSpec.ofChange gf2TimesSpec)

/-- ITS FALSE NEIGHBOUR: 'it returns false'. Refute it at one input. -/
def gf2TimesWrong : ChangeSpec := { name := "gf2Times", fn := fun _ => fun
  | [d1, d2] => { results := [.lit (.bool false)], args := [d1, d2] }
  | _ => none }
def Gf2TimesWrongFalsely : Prop := gf2TimesRow.holds Try.pinned (OpenSpec.ofChange gf2TimesWrong)

/-- 'shuttlelaw03.Gf2Over': WHATEVER THE INPUT: true; the input reads as it did. -/
def gf2OverSpec : ChangeSpec := { name := "gf2Over", fn := fun _ => fun
  | [d1, d2] => { results := [.lit (.bool true)], args := [d1, d2] }
  | _ => none }
def gf2OverRow : OpenClaim := { program := "ytcddbcknjcedfaa", sum := "ebd5d764f0a679498be78dd52f417df883d76cbef5336f3f842ea8dbbb54104a", func := "shuttle/shuttlelaw03.Gf2Over", spec := "gf2Over", apart := false }
def Gf2OverSaid : Prop := gf2OverRow.holds Try.pinned (OpenSpec.ofChange gf2OverSpec)

/-- ITS FALSE NEIGHBOUR: 'it returns false'. Refute it at one input. -/
def gf2OverWrong : ChangeSpec := { name := "gf2Over", fn := fun _ => fun
  | [d1, d2] => { results := [.lit (.bool false)], args := [d1, d2] }
  | _ => none }
def Gf2OverWrongFalsely : Prop := gf2OverRow.holds Try.pinned (OpenSpec.ofChange gf2OverWrong)

/-- 'shuttlelaw03.Gf2Common': WHATEVER THE INPUT: true; the input reads as it did. -/
def gf2CommonSpec : ChangeSpec := { name := "gf2Common", fn := fun _ => fun
  | [d1, d2, d3] => { results := [.lit (.bool true)], args := [d1, d2, d3] }
  | _ => none }
def gf2CommonRow : OpenClaim := { program := "ytcddbcknjcedfaa", sum := "ebd5d764f0a679498be78dd52f417df883d76cbef5336f3f842ea8dbbb54104a", func := "shuttle/shuttlelaw03.Gf2Common", spec := "gf2Common", apart := false }
def Gf2CommonSaid : Prop := gf2CommonRow.holds Try.pinned (OpenSpec.ofChange gf2CommonSpec)

/-- ITS FALSE NEIGHBOUR: 'it returns false'. Refute it at one input. -/
def gf2CommonWrong : ChangeSpec := { name := "gf2Common", fn := fun _ => fun
  | [d1, d2, d3] => { results := [.lit (.bool false)], args := [d1, d2, d3] }
  | _ => none }
def Gf2CommonWrongFalsely : Prop := gf2CommonRow.holds Try.pinned (OpenSpec.ofChange gf2CommonWrong)

/-- 'shuttlelaw03.Gf2Rest': WHATEVER THE INPUT: true; the input reads as it did. -/
def gf2RestSpec : ChangeSpec := { name := "gf2Rest", fn := fun _ => fun
  | [d1, d2, d3] => { results := [.lit (.bool true)], args := [d1, d2, d3] }
  | _ => none }
def gf2RestRow : OpenClaim := { program := "ytcddbcknjcedfaa", sum := "ebd5d764f0a679498be78dd52f417df883d76cbef5336f3f842ea8dbbb54104a", func := "shuttle/shuttlelaw03.Gf2Rest", spec := "gf2Rest", apart := false }
def Gf2RestSaid : Prop := gf2RestRow.holds Try.pinned (OpenSpec.ofChange gf2RestSpec)

/-- ITS FALSE NEIGHBOUR: 'it returns false'. Refute it at one input. -/
def gf2RestWrong : ChangeSpec := { name := "gf2Rest", fn := fun _ => fun
  | [d1, d2, d3] => { results := [.lit (.bool false)], args := [d1, d2, d3] }
  | _ => none }
def Gf2RestWrongFalsely : Prop := gf2RestRow.holds Try.pinned (OpenSpec.ofChange gf2RestWrong)

/-- 'shuttlelaw03.Gf2Spreads': WHATEVER THE INPUT: true; the input reads as it did. -/
def gf2SpreadsSpec : ChangeSpec := { name := "gf2Spreads", fn := fun _ => fun
  | [d1, d2, d3] => { results := [.lit (.bool true)], args := [d1, d2, d3] }
  | _ => none }
def gf2SpreadsRow : OpenClaim := { program := "ytcddbcknjcedfaa", sum := "ebd5d764f0a679498be78dd52f417df883d76cbef5336f3f842ea8dbbb54104a", func := "shuttle/shuttlelaw03.Gf2Spreads", spec := "gf2Spreads", apart := false }
def Gf2SpreadsSaid : Prop := gf2SpreadsRow.holds Try.pinned (OpenSpec.ofChange gf2SpreadsSpec)

/-- ITS FALSE NEIGHBOUR: 'it returns false'. Refute it at one input. -/
def gf2SpreadsWrong : ChangeSpec := { name := "gf2Spreads", fn := fun _ => fun
  | [d1, d2, d3] => { results := [.lit (.bool false)], args := [d1, d2, d3] }
  | _ => none }
def Gf2SpreadsWrongFalsely : Prop := gf2SpreadsRow.holds Try.pinned (OpenSpec.ofChange gf2SpreadsWrong)

/- THE SECOND FORM. 'bulk': how many values and letters a reading holds, each counted each time it is reached (what is shared counts as often as it is met; a slice's spare places count too). A statement '..UptoSaid' is the law's where the arguments, and the package variables that the reading takes, are together of bulk at most 1048576: NARROWER than '..Said'. Prove '..Said' where nothing that the law and all that it calls make is longer than what came in: it says more and counts as full. Else prove '..UptoSaid'. A law counts once. -/
mutual
def uptoBulk {H : Type} : DataW H → Nat
  | .lit (.string bytes) => bytes.length + 1
  | .lit _ => 1
  | .nil => 1
  | .ptr d => uptoBulk d + 1
  | .slice elems spare => uptoBulkAll elems + uptoBulkAll spare + 1
  | .agg parts => uptoBulkAll parts + 1
  | .iface _ d => uptoBulk d + 1
  | .map entries => uptoBulkEntries entries + 1
  | .held _ => 1
def uptoBulkAll {H : Type} : List (DataW H) → Nat
  | [] => 0
  | d :: r => uptoBulk d + uptoBulkAll r
def uptoBulkEntries {H : Type} : List (Lit × DataW H) → Nat
  | [] => 0
  | x :: r => uptoBulkEntry x + uptoBulkEntries r
def uptoBulkEntry {H : Type} : Lit × DataW H → Nat
  | (.string bytes, d) => bytes.length + uptoBulk d + 1
  | (_, d) => uptoBulk d + 1
 end
def uptoSmall : (H : Type) → List (DataW H) → Bool := fun _ ds => decide (uptoBulkAll ds ≤ 1048576)
def OpenSpec.upto (s : _root_.Go.ChangeSpec) : _root_.Go.OpenSpec := { _root_.Go.OpenSpec.ofChange s with cond := some uptoSmall }

/-- 'shuttlelaw01.BitsBytes', WHERE WHAT IT READS IS OF BULK AT MOST 1048576: true; the input reads as it did. -/
def bitsBytesUptoRow : OpenClaim := { program := "ytcddbcknjcedfaa", sum := "ebd5d764f0a679498be78dd52f417df883d76cbef5336f3f842ea8dbbb54104a", func := "shuttle/shuttlelaw01.BitsBytes", spec := "bitsBytes", apart := false, narrowed := true }
def BitsBytesUptoSaid : Prop := bitsBytesUptoRow.holds Try.pinned (OpenSpec.upto bitsBytesSpec)

/-- 'shuttlelaw01.BitsLists', WHERE WHAT IT READS IS OF BULK AT MOST 1048576: true; the input reads as it did. -/
def bitsListsUptoRow : OpenClaim := { program := "ytcddbcknjcedfaa", sum := "ebd5d764f0a679498be78dd52f417df883d76cbef5336f3f842ea8dbbb54104a", func := "shuttle/shuttlelaw01.BitsLists", spec := "bitsLists", apart := false, narrowed := true }
def BitsListsUptoSaid : Prop := bitsListsUptoRow.holds Try.pinned (OpenSpec.upto bitsListsSpec)

/-- 'shuttlelaw01.BitsApart', WHERE WHAT IT READS IS OF BULK AT MOST 1048576: true; the input reads as it did. -/
def bitsApartUptoRow : OpenClaim := { program := "ytcddbcknjcedfaa", sum := "ebd5d764f0a679498be78dd52f417df883d76cbef5336f3f842ea8dbbb54104a", func := "shuttle/shuttlelaw01.BitsApart", spec := "bitsApart", apart := false, narrowed := true }
def BitsApartUptoSaid : Prop := bitsApartUptoRow.holds Try.pinned (OpenSpec.upto bitsApartSpec)

/-- 'shuttlelaw01.BitsTurns', WHERE WHAT IT READS IS OF BULK AT MOST 1048576: true; the input reads as it did. -/
def bitsTurnsUptoRow : OpenClaim := { program := "ytcddbcknjcedfaa", sum := "ebd5d764f0a679498be78dd52f417df883d76cbef5336f3f842ea8dbbb54104a", func := "shuttle/shuttlelaw01.BitsTurns", spec := "bitsTurns", apart := false, narrowed := true }
def BitsTurnsUptoSaid : Prop := bitsTurnsUptoRow.holds Try.pinned (OpenSpec.upto bitsTurnsSpec)

/-- 'shuttlelaw02.BitioPuts', WHERE WHAT IT READS IS OF BULK AT MOST 1048576: true; the input reads as it did. -/
def bitioPutsUptoRow : OpenClaim := { program := "ytcddbcknjcedfaa", sum := "ebd5d764f0a679498be78dd52f417df883d76cbef5336f3f842ea8dbbb54104a", func := "shuttle/shuttlelaw02.BitioPuts", spec := "bitioPuts", apart := false, narrowed := true }
def BitioPutsUptoSaid : Prop := bitioPutsUptoRow.holds Try.pinned (OpenSpec.upto bitioPutsSpec)

/-- 'shuttlelaw02.BitioTakes', WHERE WHAT IT READS IS OF BULK AT MOST 1048576: true; the input reads as it did. -/
def bitioTakesUptoRow : OpenClaim := { program := "ytcddbcknjcedfaa", sum := "ebd5d764f0a679498be78dd52f417df883d76cbef5336f3f842ea8dbbb54104a", func := "shuttle/shuttlelaw02.BitioTakes", spec := "bitioTakes", apart := false, narrowed := true }
def BitioTakesUptoSaid : Prop := bitioTakesUptoRow.holds Try.pinned (OpenSpec.upto bitioTakesSpec)

/-- 'shuttlelaw02.BitioSame', WHERE WHAT IT READS IS OF BULK AT MOST 1048576: true; the input reads as it did. -/
def bitioSameUptoRow : OpenClaim := { program := "ytcddbcknjcedfaa", sum := "ebd5d764f0a679498be78dd52f417df883d76cbef5336f3f842ea8dbbb54104a", func := "shuttle/shuttlelaw02.BitioSame", spec := "bitioSame", apart := false, narrowed := true }
def BitioSameUptoSaid : Prop := bitioSameUptoRow.holds Try.pinned (OpenSpec.upto bitioSameSpec)

/-- 'shuttlelaw03.Gf2Times', WHERE WHAT IT READS IS OF BULK AT MOST 1048576: true; the input reads as it did. -/
def gf2TimesUptoRow : OpenClaim := { program := "ytcddbcknjcedfaa", sum := "ebd5d764f0a679498be78dd52f417df883d76cbef5336f3f842ea8dbbb54104a", func := "shuttle/shuttlelaw03.Gf2Times", spec := "gf2Times", apart := false, narrowed := true }
def Gf2TimesUptoSaid : Prop := gf2TimesUptoRow.holds Try.pinned (OpenSpec.upto gf2TimesSpec)

/-- 'shuttlelaw03.Gf2Over', WHERE WHAT IT READS IS OF BULK AT MOST 1048576: true; the input reads as it did. -/
def gf2OverUptoRow : OpenClaim := { program := "ytcddbcknjcedfaa", sum := "ebd5d764f0a679498be78dd52f417df883d76cbef5336f3f842ea8dbbb54104a", func := "shuttle/shuttlelaw03.Gf2Over", spec := "gf2Over", apart := false, narrowed := true }
def Gf2OverUptoSaid : Prop := gf2OverUptoRow.holds Try.pinned (OpenSpec.upto gf2OverSpec)

/-- 'shuttlelaw03.Gf2Common', WHERE WHAT IT READS IS OF BULK AT MOST 1048576: true; the input reads as it did. -/
def gf2CommonUptoRow : OpenClaim := { program := "ytcddbcknjcedfaa", sum := "ebd5d764f0a679498be78dd52f417df883d76cbef5336f3f842ea8dbbb54104a", func := "shuttle/shuttlelaw03.Gf2Common", spec := "gf2Common", apart := false, narrowed := true }
def Gf2CommonUptoSaid : Prop := gf2CommonUptoRow.holds Try.pinned (OpenSpec.upto gf2CommonSpec)

/-- 'shuttlelaw03.Gf2Rest', WHERE WHAT IT READS IS OF BULK AT MOST 1048576: true; the input reads as it did. -/
def gf2RestUptoRow : OpenClaim := { program := "ytcddbcknjcedfaa", sum := "ebd5d764f0a679498be78dd52f417df883d76cbef5336f3f842ea8dbbb54104a", func := "shuttle/shuttlelaw03.Gf2Rest", spec := "gf2Rest", apart := false, narrowed := true }
def Gf2RestUptoSaid : Prop := gf2RestUptoRow.holds Try.pinned (OpenSpec.upto gf2RestSpec)

/-- 'shuttlelaw03.Gf2Spreads', WHERE WHAT IT READS IS OF BULK AT MOST 1048576: true; the input reads as it did. -/
def gf2SpreadsUptoRow : OpenClaim := { program := "ytcddbcknjcedfaa", sum := "ebd5d764f0a679498be78dd52f417df883d76cbef5336f3f842ea8dbbb54104a", func := "shuttle/shuttlelaw03.Gf2Spreads", spec := "gf2Spreads", apart := false, narrowed := true }
def Gf2SpreadsUptoSaid : Prop := gf2SpreadsUptoRow.holds Try.pinned (OpenSpec.upto gf2SpreadsSpec)

end Rows
end Go.Proofs.Ytcddbcknjcedfaa
