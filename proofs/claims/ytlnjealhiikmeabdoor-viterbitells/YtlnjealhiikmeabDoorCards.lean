/-
  DERIVED. GIVEN WITH THE SEED: THE CARDS: each row of YtlnjealhiikmeabDoorRows.lean that lists a variable, with what it lists TIED to the program's text (the seventh form; the later family's looks); each row that meets fmt, with fmt's text TOLD by the authors' own Lean function (tested against real Go, not proved from fmt's source: count such statements apart). THE CARD IS WHAT COUNTS. Prove the row's statement (the work); the ties are given (YtlnjealhiikmeabDoorTie.lean); close each card by the builder's one call (the guide's Derived/Test/ToyasCard.lean, 'card_holds'). Laid BY PROGRAM, IN A SANDBOX (cutbox-door.mjs). By AI agents, Wed Nov 11 2026. No macro, syntax, notation, axiom, sorry.
-/
import Derived.Test.YtlnjealhiikmeabDoorRows
import GoSem.ClaimSeven
namespace Go.Proofs.YtlnjealhiikmeabDoor
namespace Rows

/-- THE TIED CARD OF 'shuttlelaw09.ViterbiFew'. -/
def viterbiFewCard : Claim7 := { stood := { row := viterbiFewRow, standIns := [], harness := (true, "9e02331f2cc8bdb956212121bc83aba9c78b0d884ed444be2843d4f327af253c"), looks := false }, kinds := [], alts := [], laidByText := true, laidKinds := [.data], laidTests := true, laidLooks := .later }
def ViterbiFewCardSaid : Prop := Claim7.holds Tryd.pinned (.plain (OpenSpec.ofChange viterbiFewSpec)) viterbiFewCard

/-- THE TIED CARD OF 'shuttlelaw09.ViterbiTells'. -/
def viterbiTellsCard : Claim7 := { stood := { row := viterbiTellsRow, standIns := [], harness := (true, "9e02331f2cc8bdb956212121bc83aba9c78b0d884ed444be2843d4f327af253c"), looks := false }, kinds := [], alts := [], laidByText := true, laidKinds := [.data], laidTests := true, laidLooks := .later }
def ViterbiTellsCardSaid : Prop := Claim7.holds Tryd.pinned (.plain (OpenSpec.ofChange viterbiTellsSpec)) viterbiTellsCard

/-- THE TIED CARD OF 'shuttlelaw09.ViterbiBest'. -/
def viterbiBestCard : Claim7 := { stood := { row := viterbiBestRow, standIns := [], harness := (true, "9e02331f2cc8bdb956212121bc83aba9c78b0d884ed444be2843d4f327af253c"), looks := false }, kinds := [], alts := [], laidByText := true, laidKinds := [.data], laidTests := true, laidLooks := .later }
def ViterbiBestCardSaid : Prop := Claim7.holds Tryd.pinned (.plain (OpenSpec.ofChange viterbiBestSpec)) viterbiBestCard

/-- THE TIED CARD OF 'shuttlelaw09.ViterbiMends'. -/
def viterbiMendsCard : Claim7 := { stood := { row := viterbiMendsRow, standIns := [], harness := (true, "9e02331f2cc8bdb956212121bc83aba9c78b0d884ed444be2843d4f327af253c"), looks := false }, kinds := [], alts := [], laidByText := true, laidKinds := [.data], laidTests := true, laidLooks := .later }
def ViterbiMendsCardSaid : Prop := Claim7.holds Tryd.pinned (.plain (OpenSpec.ofChange viterbiMendsSpec)) viterbiMendsCard

/-- THE TIED CARD OF 'shuttlelaw09.ViterbiLong'. -/
def viterbiLongCard : Claim7 := { stood := { row := viterbiLongRow, standIns := [], harness := (true, "9e02331f2cc8bdb956212121bc83aba9c78b0d884ed444be2843d4f327af253c"), looks := false }, kinds := [], alts := [], laidByText := true, laidKinds := [.data], laidTests := true, laidLooks := .later }
def ViterbiLongCardSaid : Prop := Claim7.holds Tryd.pinned (.plain (OpenSpec.ofChange viterbiLongSpec)) viterbiLongCard

/-- THE TIED CARD OF 'shuttlelaw09.ViterbiTwice'. -/
def viterbiTwiceCard : Claim7 := { stood := { row := viterbiTwiceRow, standIns := [], harness := (true, "9e02331f2cc8bdb956212121bc83aba9c78b0d884ed444be2843d4f327af253c"), looks := false }, kinds := [], alts := [], laidByText := true, laidKinds := [.data], laidTests := true, laidLooks := .later }
def ViterbiTwiceCardSaid : Prop := Claim7.holds Tryd.pinned (.plain (OpenSpec.ofChange viterbiTwiceSpec)) viterbiTwiceCard

/-- THE TIED CARD OF 'shuttletop.ShuttleErased'. -/
def shuttleErasedCard : Claim7 := { stood := { row := shuttleErasedRow, standIns := [], harness := (true, "9e02331f2cc8bdb956212121bc83aba9c78b0d884ed444be2843d4f327af253c"), looks := false }, kinds := [], alts := [], laidByText := true, laidKinds := [.data], laidTests := true, laidLooks := .later }
def ShuttleErasedCardSaid : Prop := Claim7.holds Tryd.pinned (.plain (OpenSpec.ofChange shuttleErasedSpec)) shuttleErasedCard

/-- THE SECOND FORM's CARD OF 'shuttlelaw09.ViterbiFew'. -/
def viterbiFewUptoCard : Claim7 := { stood := { row := viterbiFewUptoRow, standIns := [], harness := (true, "9e02331f2cc8bdb956212121bc83aba9c78b0d884ed444be2843d4f327af253c"), looks := false }, kinds := [], alts := [], laidByText := true, laidKinds := [.data], laidTests := true, laidLooks := .later }
def ViterbiFewUptoCardSaid : Prop := Claim7.holds Tryd.pinned (.plain (OpenSpec.upto viterbiFewSpec)) viterbiFewUptoCard

/-- THE SECOND FORM's CARD OF 'shuttlelaw09.ViterbiTells'. -/
def viterbiTellsUptoCard : Claim7 := { stood := { row := viterbiTellsUptoRow, standIns := [], harness := (true, "9e02331f2cc8bdb956212121bc83aba9c78b0d884ed444be2843d4f327af253c"), looks := false }, kinds := [], alts := [], laidByText := true, laidKinds := [.data], laidTests := true, laidLooks := .later }
def ViterbiTellsUptoCardSaid : Prop := Claim7.holds Tryd.pinned (.plain (OpenSpec.upto viterbiTellsSpec)) viterbiTellsUptoCard

/-- THE SECOND FORM's CARD OF 'shuttlelaw09.ViterbiBest'. -/
def viterbiBestUptoCard : Claim7 := { stood := { row := viterbiBestUptoRow, standIns := [], harness := (true, "9e02331f2cc8bdb956212121bc83aba9c78b0d884ed444be2843d4f327af253c"), looks := false }, kinds := [], alts := [], laidByText := true, laidKinds := [.data], laidTests := true, laidLooks := .later }
def ViterbiBestUptoCardSaid : Prop := Claim7.holds Tryd.pinned (.plain (OpenSpec.upto viterbiBestSpec)) viterbiBestUptoCard

/-- THE SECOND FORM's CARD OF 'shuttlelaw09.ViterbiMends'. -/
def viterbiMendsUptoCard : Claim7 := { stood := { row := viterbiMendsUptoRow, standIns := [], harness := (true, "9e02331f2cc8bdb956212121bc83aba9c78b0d884ed444be2843d4f327af253c"), looks := false }, kinds := [], alts := [], laidByText := true, laidKinds := [.data], laidTests := true, laidLooks := .later }
def ViterbiMendsUptoCardSaid : Prop := Claim7.holds Tryd.pinned (.plain (OpenSpec.upto viterbiMendsSpec)) viterbiMendsUptoCard

/-- THE SECOND FORM's CARD OF 'shuttlelaw09.ViterbiLong'. -/
def viterbiLongUptoCard : Claim7 := { stood := { row := viterbiLongUptoRow, standIns := [], harness := (true, "9e02331f2cc8bdb956212121bc83aba9c78b0d884ed444be2843d4f327af253c"), looks := false }, kinds := [], alts := [], laidByText := true, laidKinds := [.data], laidTests := true, laidLooks := .later }
def ViterbiLongUptoCardSaid : Prop := Claim7.holds Tryd.pinned (.plain (OpenSpec.upto viterbiLongSpec)) viterbiLongUptoCard

/-- THE SECOND FORM's CARD OF 'shuttlelaw09.ViterbiTwice'. -/
def viterbiTwiceUptoCard : Claim7 := { stood := { row := viterbiTwiceUptoRow, standIns := [], harness := (true, "9e02331f2cc8bdb956212121bc83aba9c78b0d884ed444be2843d4f327af253c"), looks := false }, kinds := [], alts := [], laidByText := true, laidKinds := [.data], laidTests := true, laidLooks := .later }
def ViterbiTwiceUptoCardSaid : Prop := Claim7.holds Tryd.pinned (.plain (OpenSpec.upto viterbiTwiceSpec)) viterbiTwiceUptoCard

/-- THE SECOND FORM's CARD OF 'shuttletop.ShuttleErased'. -/
def shuttleErasedUptoCard : Claim7 := { stood := { row := shuttleErasedUptoRow, standIns := [], harness := (true, "9e02331f2cc8bdb956212121bc83aba9c78b0d884ed444be2843d4f327af253c"), looks := false }, kinds := [], alts := [], laidByText := true, laidKinds := [.data], laidTests := true, laidLooks := .later }
def ShuttleErasedUptoCardSaid : Prop := Claim7.holds Tryd.pinned (.plain (OpenSpec.upto shuttleErasedSpec)) shuttleErasedUptoCard
end Rows
end Go.Proofs.YtlnjealhiikmeabDoor
