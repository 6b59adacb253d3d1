/-
  DERIVED. GIVEN WITH THE SEED: THE CARDS: each row of YtkmacepodomdmaaDoorRows.lean that lists a variable, with what it lists TIED to the program's text (the seventh form; the later family's looks); each row that meets fmt, with fmt's text TOLD by the authors' own Lean function (tested against real Go, not proved from fmt's source: count such statements apart). THE CARD IS WHAT COUNTS. Prove the row's statement (the work); the ties are given (YtkmacepodomdmaaDoorTie.lean); close each card by the builder's one call (the guide's Derived/Test/ToyasCard.lean, 'card_holds'). Laid BY PROGRAM, IN A SANDBOX (cutbox-door.mjs). By AI agents, Wed Nov 11 2026. No macro, syntax, notation, axiom, sorry.
-/
import Derived.Test.YtkmacepodomdmaaDoorRows
import GoSem.ClaimSeven
namespace Go.Proofs.YtkmacepodomdmaaDoor
namespace Rows

/-- THE TIED CARD OF 'shuttlelaw16.FrameWrites'. -/
def frameWritesCard : Claim7 := { stood := { row := frameWritesRow, standIns := [], harness := (true, "d6a012151fec5f3ad2492196efb9ae391feb8c7809995e5977f23c263d82e400"), looks := true }, kinds := [], alts := [], laidByText := true, laidKinds := [.handle, .sentinel, .sentinel, .sentinel, .sentinel, .sentinel], laidTests := true, laidLooks := .later }
def FrameWritesCardSaid : Prop := Claim7.holds Tryd.pinned (.plain (OpenSpec.ofChange frameWritesSpec)) frameWritesCard

/-- THE TIED CARD OF 'shuttlelaw16.FrameReads'. -/
def frameReadsCard : Claim7 := { stood := { row := frameReadsRow, standIns := [], harness := (true, "d6a012151fec5f3ad2492196efb9ae391feb8c7809995e5977f23c263d82e400"), looks := true }, kinds := [], alts := [], laidByText := true, laidKinds := [.handle, .sentinel, .sentinel, .sentinel, .sentinel, .sentinel], laidTests := true, laidLooks := .later }
def FrameReadsCardSaid : Prop := Claim7.holds Tryd.pinned (.plain (OpenSpec.ofChange frameReadsSpec)) frameReadsCard

/-- THE TIED CARD OF 'shuttlelaw18.PoolKeeps'. -/
def poolKeepsCard : Claim7 := { stood := { row := poolKeepsRow, standIns := [], harness := (true, "d6a012151fec5f3ad2492196efb9ae391feb8c7809995e5977f23c263d82e400"), looks := true }, kinds := [], alts := [], laidByText := true, laidKinds := [.data], laidTests := true, laidLooks := .later }
def PoolKeepsCardSaid : Prop := Claim7.holds Tryd.pinned (.plain (OpenSpec.ofChange poolKeepsSpec)) poolKeepsCard

/-- THE TIED CARD OF 'shuttlelaw23.SenderTries'. -/
def senderTriesCard : Claim7 := { stood := { row := senderTriesRow, standIns := [], harness := (true, "d6a012151fec5f3ad2492196efb9ae391feb8c7809995e5977f23c263d82e400"), looks := true }, kinds := [], alts := [], laidByText := true, laidKinds := [.data], laidTests := true, laidLooks := .later }
def SenderTriesCardSaid : Prop := Claim7.holds Tryd.pinned (.plain (OpenSpec.ofChange senderTriesSpec)) senderTriesCard

/-- THE TIED CARD OF 'shuttlelaw23.SenderOld'. -/
def senderOldCard : Claim7 := { stood := { row := senderOldRow, standIns := [], harness := (true, "d6a012151fec5f3ad2492196efb9ae391feb8c7809995e5977f23c263d82e400"), looks := true }, kinds := [], alts := [], laidByText := true, laidKinds := [.data], laidTests := true, laidLooks := .later }
def SenderOldCardSaid : Prop := Claim7.holds Tryd.pinned (.plain (OpenSpec.ofChange senderOldSpec)) senderOldCard

/-- THE TIED CARD OF 'shuttlelaw23.SenderFull'. -/
def senderFullCard : Claim7 := { stood := { row := senderFullRow, standIns := [], harness := (true, "d6a012151fec5f3ad2492196efb9ae391feb8c7809995e5977f23c263d82e400"), looks := true }, kinds := [], alts := [], laidByText := true, laidKinds := [.data], laidTests := true, laidLooks := .later }
def SenderFullCardSaid : Prop := Claim7.holds Tryd.pinned (.plain (OpenSpec.ofChange senderFullSpec)) senderFullCard

/-- THE SECOND FORM's CARD OF 'shuttlelaw16.FrameWrites'. -/
def frameWritesUptoCard : Claim7 := { stood := { row := frameWritesUptoRow, standIns := [], harness := (true, "d6a012151fec5f3ad2492196efb9ae391feb8c7809995e5977f23c263d82e400"), looks := true }, kinds := [], alts := [], laidByText := true, laidKinds := [.handle, .sentinel, .sentinel, .sentinel, .sentinel, .sentinel], laidTests := true, laidLooks := .later }
def FrameWritesUptoCardSaid : Prop := Claim7.holds Tryd.pinned (.plain (OpenSpec.upto frameWritesSpec)) frameWritesUptoCard

/-- THE SECOND FORM's CARD OF 'shuttlelaw16.FrameReads'. -/
def frameReadsUptoCard : Claim7 := { stood := { row := frameReadsUptoRow, standIns := [], harness := (true, "d6a012151fec5f3ad2492196efb9ae391feb8c7809995e5977f23c263d82e400"), looks := true }, kinds := [], alts := [], laidByText := true, laidKinds := [.handle, .sentinel, .sentinel, .sentinel, .sentinel, .sentinel], laidTests := true, laidLooks := .later }
def FrameReadsUptoCardSaid : Prop := Claim7.holds Tryd.pinned (.plain (OpenSpec.upto frameReadsSpec)) frameReadsUptoCard

/-- THE SECOND FORM's CARD OF 'shuttlelaw18.PoolKeeps'. -/
def poolKeepsUptoCard : Claim7 := { stood := { row := poolKeepsUptoRow, standIns := [], harness := (true, "d6a012151fec5f3ad2492196efb9ae391feb8c7809995e5977f23c263d82e400"), looks := true }, kinds := [], alts := [], laidByText := true, laidKinds := [.data], laidTests := true, laidLooks := .later }
def PoolKeepsUptoCardSaid : Prop := Claim7.holds Tryd.pinned (.plain (OpenSpec.upto poolKeepsSpec)) poolKeepsUptoCard

/-- THE SECOND FORM's CARD OF 'shuttlelaw23.SenderTries'. -/
def senderTriesUptoCard : Claim7 := { stood := { row := senderTriesUptoRow, standIns := [], harness := (true, "d6a012151fec5f3ad2492196efb9ae391feb8c7809995e5977f23c263d82e400"), looks := true }, kinds := [], alts := [], laidByText := true, laidKinds := [.data], laidTests := true, laidLooks := .later }
def SenderTriesUptoCardSaid : Prop := Claim7.holds Tryd.pinned (.plain (OpenSpec.upto senderTriesSpec)) senderTriesUptoCard

/-- THE SECOND FORM's CARD OF 'shuttlelaw23.SenderOld'. -/
def senderOldUptoCard : Claim7 := { stood := { row := senderOldUptoRow, standIns := [], harness := (true, "d6a012151fec5f3ad2492196efb9ae391feb8c7809995e5977f23c263d82e400"), looks := true }, kinds := [], alts := [], laidByText := true, laidKinds := [.data], laidTests := true, laidLooks := .later }
def SenderOldUptoCardSaid : Prop := Claim7.holds Tryd.pinned (.plain (OpenSpec.upto senderOldSpec)) senderOldUptoCard

/-- THE SECOND FORM's CARD OF 'shuttlelaw23.SenderFull'. -/
def senderFullUptoCard : Claim7 := { stood := { row := senderFullUptoRow, standIns := [], harness := (true, "d6a012151fec5f3ad2492196efb9ae391feb8c7809995e5977f23c263d82e400"), looks := true }, kinds := [], alts := [], laidByText := true, laidKinds := [.data], laidTests := true, laidLooks := .later }
def SenderFullUptoCardSaid : Prop := Claim7.holds Tryd.pinned (.plain (OpenSpec.upto senderFullSpec)) senderFullUptoCard
end Rows
end Go.Proofs.YtkmacepodomdmaaDoor
