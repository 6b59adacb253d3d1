/-
  DERIVED. GIVEN WITH THE SEED: THE CARDS: each row of YtibddlldgmidlabDoorRows.lean that lists a variable, with what it lists TIED to the program's text (the seventh form; the later family's looks); each row that meets fmt, with fmt's text TOLD by the authors' own Lean function (tested against real Go, not proved from fmt's source: count such statements apart). THE CARD IS WHAT COUNTS. Prove the row's statement (the work); the ties are given (YtibddlldgmidlabDoorTie.lean); close each card by the builder's one call (the guide's Derived/Test/ToyasCard.lean, 'card_holds'). Laid BY PROGRAM, IN A SANDBOX (cutbox-door.mjs). By AI agents, Wed Nov 11 2026. No macro, syntax, notation, axiom, sorry.
-/
import Derived.Test.YtibddlldgmidlabDoorRows
import GoSem.ClaimSeven
namespace Go.Proofs.YtibddlldgmidlabDoor
namespace Rows

/-- THE TIED CARD OF 'shuttlelaw13.CombineAdds'. -/
def combineAddsCard : Claim7 := { stood := { row := combineAddsRow, standIns := [], harness := (true, "f87c79d0659c632a1dc0e2fad01183390dff09b838086def37f879422343d85f"), looks := false }, kinds := [], alts := [], laidByText := true, laidKinds := [.data], laidTests := true, laidLooks := .later }
def CombineAddsCardSaid : Prop := Claim7.holds Tryd.pinned (.plain (OpenSpec.ofChange combineAddsSpec)) combineAddsCard

/-- THE TIED CARD OF 'shuttlelaw13.CombineOrder'. -/
def combineOrderCard : Claim7 := { stood := { row := combineOrderRow, standIns := [], harness := (true, "f87c79d0659c632a1dc0e2fad01183390dff09b838086def37f879422343d85f"), looks := false }, kinds := [], alts := [], laidByText := true, laidKinds := [.data], laidTests := true, laidLooks := .later }
def CombineOrderCardSaid : Prop := Claim7.holds Tryd.pinned (.plain (OpenSpec.ofChange combineOrderSpec)) combineOrderCard

/-- THE TIED CARD OF 'shuttlelaw13.CombineMends'. -/
def combineMendsCard : Claim7 := { stood := { row := combineMendsRow, standIns := [], harness := (true, "f87c79d0659c632a1dc0e2fad01183390dff09b838086def37f879422343d85f"), looks := false }, kinds := [], alts := [], laidByText := true, laidKinds := [.data], laidTests := true, laidLooks := .later }
def CombineMendsCardSaid : Prop := Claim7.holds Tryd.pinned (.plain (OpenSpec.ofChange combineMendsSpec)) combineMendsCard

/-- THE TIED CARD OF 'shuttlelaw13.CombineWhole'. -/
def combineWholeCard : Claim7 := { stood := { row := combineWholeRow, standIns := [], harness := (true, "f87c79d0659c632a1dc0e2fad01183390dff09b838086def37f879422343d85f"), looks := false }, kinds := [], alts := [], laidByText := true, laidKinds := [.data], laidTests := true, laidLooks := .later }
def CombineWholeCardSaid : Prop := Claim7.holds Tryd.pinned (.plain (OpenSpec.ofChange combineWholeSpec)) combineWholeCard

/-- THE TIED CARD OF 'shuttletop.ShuttleMends'. -/
def shuttleMendsCard : Claim7 := { stood := { row := shuttleMendsRow, standIns := [], harness := (true, "f87c79d0659c632a1dc0e2fad01183390dff09b838086def37f879422343d85f"), looks := false }, kinds := [], alts := [], laidByText := true, laidKinds := [.data], laidTests := true, laidLooks := .later }
def ShuttleMendsCardSaid : Prop := Claim7.holds Tryd.pinned (.plain (OpenSpec.ofChange shuttleMendsSpec)) shuttleMendsCard

/-- THE SECOND FORM's CARD OF 'shuttlelaw13.CombineAdds'. -/
def combineAddsUptoCard : Claim7 := { stood := { row := combineAddsUptoRow, standIns := [], harness := (true, "f87c79d0659c632a1dc0e2fad01183390dff09b838086def37f879422343d85f"), looks := false }, kinds := [], alts := [], laidByText := true, laidKinds := [.data], laidTests := true, laidLooks := .later }
def CombineAddsUptoCardSaid : Prop := Claim7.holds Tryd.pinned (.plain (OpenSpec.upto combineAddsSpec)) combineAddsUptoCard

/-- THE SECOND FORM's CARD OF 'shuttlelaw13.CombineOrder'. -/
def combineOrderUptoCard : Claim7 := { stood := { row := combineOrderUptoRow, standIns := [], harness := (true, "f87c79d0659c632a1dc0e2fad01183390dff09b838086def37f879422343d85f"), looks := false }, kinds := [], alts := [], laidByText := true, laidKinds := [.data], laidTests := true, laidLooks := .later }
def CombineOrderUptoCardSaid : Prop := Claim7.holds Tryd.pinned (.plain (OpenSpec.upto combineOrderSpec)) combineOrderUptoCard

/-- THE SECOND FORM's CARD OF 'shuttlelaw13.CombineMends'. -/
def combineMendsUptoCard : Claim7 := { stood := { row := combineMendsUptoRow, standIns := [], harness := (true, "f87c79d0659c632a1dc0e2fad01183390dff09b838086def37f879422343d85f"), looks := false }, kinds := [], alts := [], laidByText := true, laidKinds := [.data], laidTests := true, laidLooks := .later }
def CombineMendsUptoCardSaid : Prop := Claim7.holds Tryd.pinned (.plain (OpenSpec.upto combineMendsSpec)) combineMendsUptoCard

/-- THE SECOND FORM's CARD OF 'shuttlelaw13.CombineWhole'. -/
def combineWholeUptoCard : Claim7 := { stood := { row := combineWholeUptoRow, standIns := [], harness := (true, "f87c79d0659c632a1dc0e2fad01183390dff09b838086def37f879422343d85f"), looks := false }, kinds := [], alts := [], laidByText := true, laidKinds := [.data], laidTests := true, laidLooks := .later }
def CombineWholeUptoCardSaid : Prop := Claim7.holds Tryd.pinned (.plain (OpenSpec.upto combineWholeSpec)) combineWholeUptoCard

/-- THE SECOND FORM's CARD OF 'shuttletop.ShuttleMends'. -/
def shuttleMendsUptoCard : Claim7 := { stood := { row := shuttleMendsUptoRow, standIns := [], harness := (true, "f87c79d0659c632a1dc0e2fad01183390dff09b838086def37f879422343d85f"), looks := false }, kinds := [], alts := [], laidByText := true, laidKinds := [.data], laidTests := true, laidLooks := .later }
def ShuttleMendsUptoCardSaid : Prop := Claim7.holds Tryd.pinned (.plain (OpenSpec.upto shuttleMendsSpec)) shuttleMendsUptoCard
end Rows
end Go.Proofs.YtibddlldgmidlabDoor
