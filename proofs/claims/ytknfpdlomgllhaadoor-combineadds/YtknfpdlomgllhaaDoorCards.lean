/-
  DERIVED. GIVEN WITH THE SEED: THE CARDS: each row of YtknfpdlomgllhaaDoorRows.lean that lists a variable, with what it lists TIED to the program's text (the seventh form; the later family's looks); each row that meets fmt, with fmt's text TOLD by the authors' own Lean function (tested against real Go, not proved from fmt's source: count such statements apart). THE CARD IS WHAT COUNTS. Prove the row's statement (the work); the ties are given (YtknfpdlomgllhaaDoorTie.lean); close each card by the builder's one call (the guide's Derived/Test/ToyasCard.lean, 'card_holds'). Laid BY PROGRAM, IN A SANDBOX (cutbox-door.mjs). By AI agents, Wed Nov 11 2026. No macro, syntax, notation, axiom, sorry.
-/
import Derived.Test.YtknfpdlomgllhaaDoorRows
import GoSem.ClaimSeven
namespace Go.Proofs.YtknfpdlomgllhaaDoor
namespace Rows

/-- THE TIED CARD OF 'shuttlelaw12.DistanceHolds'. -/
def distanceHoldsCard : Claim7 := { stood := { row := distanceHoldsRow, standIns := [], harness := (true, "6463cbf49d19eab84cef9ff5a40c72b307b75409afaa918e56e64394aebf788d"), looks := true }, kinds := [], alts := [], laidByText := true, laidKinds := [.data], laidTests := true, laidLooks := .later }
def DistanceHoldsCardSaid : Prop := Claim7.holds Tryd.pinned (.plain (OpenSpec.ofChange distanceHoldsSpec)) distanceHoldsCard

/-- THE TIED CARD OF 'shuttlelaw13.CombineAdds'. -/
def combineAddsCard : Claim7 := { stood := { row := combineAddsRow, standIns := [], harness := (true, "6463cbf49d19eab84cef9ff5a40c72b307b75409afaa918e56e64394aebf788d"), looks := true }, kinds := [], alts := [], laidByText := true, laidKinds := [.data], laidTests := true, laidLooks := .later }
def CombineAddsCardSaid : Prop := Claim7.holds Tryd.pinned (.plain (OpenSpec.ofChange combineAddsSpec)) combineAddsCard

/-- THE TIED CARD OF 'shuttlelaw13.CombineOrder'. -/
def combineOrderCard : Claim7 := { stood := { row := combineOrderRow, standIns := [], harness := (true, "6463cbf49d19eab84cef9ff5a40c72b307b75409afaa918e56e64394aebf788d"), looks := true }, kinds := [], alts := [], laidByText := true, laidKinds := [.data], laidTests := true, laidLooks := .later }
def CombineOrderCardSaid : Prop := Claim7.holds Tryd.pinned (.plain (OpenSpec.ofChange combineOrderSpec)) combineOrderCard

/-- THE TIED CARD OF 'shuttlelaw16.FrameWrites'. -/
def frameWritesCard : Claim7 := { stood := { row := frameWritesRow, standIns := [], harness := (true, "6463cbf49d19eab84cef9ff5a40c72b307b75409afaa918e56e64394aebf788d"), looks := true }, kinds := [], alts := [], laidByText := true, laidKinds := [.handle, .sentinel, .sentinel, .sentinel, .sentinel, .sentinel], laidTests := true, laidLooks := .later }
def FrameWritesCardSaid : Prop := Claim7.holds Tryd.pinned (.plain (OpenSpec.ofChange frameWritesSpec)) frameWritesCard

/-- THE TIED CARD OF 'shuttlelaw16.FrameReads'. -/
def frameReadsCard : Claim7 := { stood := { row := frameReadsRow, standIns := [], harness := (true, "6463cbf49d19eab84cef9ff5a40c72b307b75409afaa918e56e64394aebf788d"), looks := true }, kinds := [], alts := [], laidByText := true, laidKinds := [.handle, .sentinel, .sentinel, .sentinel, .sentinel, .sentinel], laidTests := true, laidLooks := .later }
def FrameReadsCardSaid : Prop := Claim7.holds Tryd.pinned (.plain (OpenSpec.ofChange frameReadsSpec)) frameReadsCard

/-- THE TIED CARD OF 'shuttlelaw18.PoolKeeps'. -/
def poolKeepsCard : Claim7 := { stood := { row := poolKeepsRow, standIns := [], harness := (true, "6463cbf49d19eab84cef9ff5a40c72b307b75409afaa918e56e64394aebf788d"), looks := true }, kinds := [], alts := [], laidByText := true, laidKinds := [.data], laidTests := true, laidLooks := .later }
def PoolKeepsCardSaid : Prop := Claim7.holds Tryd.pinned (.plain (OpenSpec.ofChange poolKeepsSpec)) poolKeepsCard

/-- THE SECOND FORM's CARD OF 'shuttlelaw12.DistanceHolds'. -/
def distanceHoldsUptoCard : Claim7 := { stood := { row := distanceHoldsUptoRow, standIns := [], harness := (true, "6463cbf49d19eab84cef9ff5a40c72b307b75409afaa918e56e64394aebf788d"), looks := true }, kinds := [], alts := [], laidByText := true, laidKinds := [.data], laidTests := true, laidLooks := .later }
def DistanceHoldsUptoCardSaid : Prop := Claim7.holds Tryd.pinned (.plain (OpenSpec.upto distanceHoldsSpec)) distanceHoldsUptoCard

/-- THE SECOND FORM's CARD OF 'shuttlelaw13.CombineAdds'. -/
def combineAddsUptoCard : Claim7 := { stood := { row := combineAddsUptoRow, standIns := [], harness := (true, "6463cbf49d19eab84cef9ff5a40c72b307b75409afaa918e56e64394aebf788d"), looks := true }, kinds := [], alts := [], laidByText := true, laidKinds := [.data], laidTests := true, laidLooks := .later }
def CombineAddsUptoCardSaid : Prop := Claim7.holds Tryd.pinned (.plain (OpenSpec.upto combineAddsSpec)) combineAddsUptoCard

/-- THE SECOND FORM's CARD OF 'shuttlelaw13.CombineOrder'. -/
def combineOrderUptoCard : Claim7 := { stood := { row := combineOrderUptoRow, standIns := [], harness := (true, "6463cbf49d19eab84cef9ff5a40c72b307b75409afaa918e56e64394aebf788d"), looks := true }, kinds := [], alts := [], laidByText := true, laidKinds := [.data], laidTests := true, laidLooks := .later }
def CombineOrderUptoCardSaid : Prop := Claim7.holds Tryd.pinned (.plain (OpenSpec.upto combineOrderSpec)) combineOrderUptoCard

/-- THE SECOND FORM's CARD OF 'shuttlelaw16.FrameWrites'. -/
def frameWritesUptoCard : Claim7 := { stood := { row := frameWritesUptoRow, standIns := [], harness := (true, "6463cbf49d19eab84cef9ff5a40c72b307b75409afaa918e56e64394aebf788d"), looks := true }, kinds := [], alts := [], laidByText := true, laidKinds := [.handle, .sentinel, .sentinel, .sentinel, .sentinel, .sentinel], laidTests := true, laidLooks := .later }
def FrameWritesUptoCardSaid : Prop := Claim7.holds Tryd.pinned (.plain (OpenSpec.upto frameWritesSpec)) frameWritesUptoCard

/-- THE SECOND FORM's CARD OF 'shuttlelaw16.FrameReads'. -/
def frameReadsUptoCard : Claim7 := { stood := { row := frameReadsUptoRow, standIns := [], harness := (true, "6463cbf49d19eab84cef9ff5a40c72b307b75409afaa918e56e64394aebf788d"), looks := true }, kinds := [], alts := [], laidByText := true, laidKinds := [.handle, .sentinel, .sentinel, .sentinel, .sentinel, .sentinel], laidTests := true, laidLooks := .later }
def FrameReadsUptoCardSaid : Prop := Claim7.holds Tryd.pinned (.plain (OpenSpec.upto frameReadsSpec)) frameReadsUptoCard

/-- THE SECOND FORM's CARD OF 'shuttlelaw18.PoolKeeps'. -/
def poolKeepsUptoCard : Claim7 := { stood := { row := poolKeepsUptoRow, standIns := [], harness := (true, "6463cbf49d19eab84cef9ff5a40c72b307b75409afaa918e56e64394aebf788d"), looks := true }, kinds := [], alts := [], laidByText := true, laidKinds := [.data], laidTests := true, laidLooks := .later }
def PoolKeepsUptoCardSaid : Prop := Claim7.holds Tryd.pinned (.plain (OpenSpec.upto poolKeepsSpec)) poolKeepsUptoCard
end Rows
end Go.Proofs.YtknfpdlomgllhaaDoor
