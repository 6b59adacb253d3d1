/-
  DERIVED. GIVEN WITH THE SEED: THE CARDS: each row of YtibddlldgmidlaaDoorRows.lean that lists a variable, with what it lists TIED to the program's text (the seventh form; the later family's looks); each row that meets fmt, with fmt's text TOLD by the authors' own Lean function (tested against real Go, not proved from fmt's source: count such statements apart). THE CARD IS WHAT COUNTS. Prove the row's statement (the work); the ties are given (YtibddlldgmidlaaDoorTie.lean); close each card by the builder's one call (the guide's Derived/Test/ToyasCard.lean, 'card_holds'). Laid BY PROGRAM, IN A SANDBOX (cutbox-door.mjs). By AI agents, Wed Nov 11 2026. No macro, syntax, notation, axiom, sorry.
-/
import Derived.Test.YtibddlldgmidlaaDoorRows
import GoSem.ClaimSeven
namespace Go.Proofs.YtibddlldgmidlaaDoor
namespace Rows

/-- THE TIED CARD OF 'shuttlelaw11.VersionCodes'. -/
def versionCodesCard : Claim7 := { stood := { row := versionCodesRow, standIns := [], harness := (true, "1b8e1e54b5c428e301b27f8fc5eee1263024667c84f7628c25f29f9d004a5944"), looks := false }, kinds := [], alts := [], laidByText := true, laidKinds := [.data], laidTests := true, laidLooks := .later }
def VersionCodesCardSaid : Prop := Claim7.holds Tryd.pinned (.plain (OpenSpec.ofChange versionCodesSpec)) versionCodesCard

/-- THE TIED CARD OF 'shuttlelaw11.VersionAlone'. -/
def versionAloneCard : Claim7 := { stood := { row := versionAloneRow, standIns := [], harness := (true, "1b8e1e54b5c428e301b27f8fc5eee1263024667c84f7628c25f29f9d004a5944"), looks := false }, kinds := [], alts := [], laidByText := true, laidKinds := [.data], laidTests := true, laidLooks := .later }
def VersionAloneCardSaid : Prop := Claim7.holds Tryd.pinned (.plain (OpenSpec.ofChange versionAloneSpec)) versionAloneCard

/-- THE TIED CARD OF 'shuttlelaw11.VersionTurned'. -/
def versionTurnedCard : Claim7 := { stood := { row := versionTurnedRow, standIns := [], harness := (true, "1b8e1e54b5c428e301b27f8fc5eee1263024667c84f7628c25f29f9d004a5944"), looks := false }, kinds := [], alts := [], laidByText := true, laidKinds := [.data], laidTests := true, laidLooks := .later }
def VersionTurnedCardSaid : Prop := Claim7.holds Tryd.pinned (.plain (OpenSpec.ofChange versionTurnedSpec)) versionTurnedCard

/-- THE TIED CARD OF 'shuttlelaw12.DistanceLeast'. -/
def distanceLeastCard : Claim7 := { stood := { row := distanceLeastRow, standIns := [], harness := (true, "1b8e1e54b5c428e301b27f8fc5eee1263024667c84f7628c25f29f9d004a5944"), looks := false }, kinds := [], alts := [], laidByText := true, laidKinds := [.data], laidTests := true, laidLooks := .later }
def DistanceLeastCardSaid : Prop := Claim7.holds Tryd.pinned (.plain (OpenSpec.ofChange distanceLeastSpec)) distanceLeastCard

/-- THE TIED CARD OF 'shuttlelaw12.DistanceHolds'. -/
def distanceHoldsCard : Claim7 := { stood := { row := distanceHoldsRow, standIns := [], harness := (true, "1b8e1e54b5c428e301b27f8fc5eee1263024667c84f7628c25f29f9d004a5944"), looks := false }, kinds := [], alts := [], laidByText := true, laidKinds := [.data], laidTests := true, laidLooks := .later }
def DistanceHoldsCardSaid : Prop := Claim7.holds Tryd.pinned (.plain (OpenSpec.ofChange distanceHoldsSpec)) distanceHoldsCard

/-- THE TIED CARD OF 'shuttlelaw12.DistanceGrows'. -/
def distanceGrowsCard : Claim7 := { stood := { row := distanceGrowsRow, standIns := [], harness := (true, "1b8e1e54b5c428e301b27f8fc5eee1263024667c84f7628c25f29f9d004a5944"), looks := false }, kinds := [], alts := [], laidByText := true, laidKinds := [.data], laidTests := true, laidLooks := .later }
def DistanceGrowsCardSaid : Prop := Claim7.holds Tryd.pinned (.plain (OpenSpec.ofChange distanceGrowsSpec)) distanceGrowsCard

/-- THE TIED CARD OF 'shuttlelaw12.DistanceTurns'. -/
def distanceTurnsCard : Claim7 := { stood := { row := distanceTurnsRow, standIns := [], harness := (true, "1b8e1e54b5c428e301b27f8fc5eee1263024667c84f7628c25f29f9d004a5944"), looks := false }, kinds := [], alts := [], laidByText := true, laidKinds := [.data], laidTests := true, laidLooks := .later }
def DistanceTurnsCardSaid : Prop := Claim7.holds Tryd.pinned (.plain (OpenSpec.ofChange distanceTurnsSpec)) distanceTurnsCard

/-- THE SECOND FORM's CARD OF 'shuttlelaw11.VersionCodes'. -/
def versionCodesUptoCard : Claim7 := { stood := { row := versionCodesUptoRow, standIns := [], harness := (true, "1b8e1e54b5c428e301b27f8fc5eee1263024667c84f7628c25f29f9d004a5944"), looks := false }, kinds := [], alts := [], laidByText := true, laidKinds := [.data], laidTests := true, laidLooks := .later }
def VersionCodesUptoCardSaid : Prop := Claim7.holds Tryd.pinned (.plain (OpenSpec.upto versionCodesSpec)) versionCodesUptoCard

/-- THE SECOND FORM's CARD OF 'shuttlelaw11.VersionAlone'. -/
def versionAloneUptoCard : Claim7 := { stood := { row := versionAloneUptoRow, standIns := [], harness := (true, "1b8e1e54b5c428e301b27f8fc5eee1263024667c84f7628c25f29f9d004a5944"), looks := false }, kinds := [], alts := [], laidByText := true, laidKinds := [.data], laidTests := true, laidLooks := .later }
def VersionAloneUptoCardSaid : Prop := Claim7.holds Tryd.pinned (.plain (OpenSpec.upto versionAloneSpec)) versionAloneUptoCard

/-- THE SECOND FORM's CARD OF 'shuttlelaw11.VersionTurned'. -/
def versionTurnedUptoCard : Claim7 := { stood := { row := versionTurnedUptoRow, standIns := [], harness := (true, "1b8e1e54b5c428e301b27f8fc5eee1263024667c84f7628c25f29f9d004a5944"), looks := false }, kinds := [], alts := [], laidByText := true, laidKinds := [.data], laidTests := true, laidLooks := .later }
def VersionTurnedUptoCardSaid : Prop := Claim7.holds Tryd.pinned (.plain (OpenSpec.upto versionTurnedSpec)) versionTurnedUptoCard

/-- THE SECOND FORM's CARD OF 'shuttlelaw12.DistanceLeast'. -/
def distanceLeastUptoCard : Claim7 := { stood := { row := distanceLeastUptoRow, standIns := [], harness := (true, "1b8e1e54b5c428e301b27f8fc5eee1263024667c84f7628c25f29f9d004a5944"), looks := false }, kinds := [], alts := [], laidByText := true, laidKinds := [.data], laidTests := true, laidLooks := .later }
def DistanceLeastUptoCardSaid : Prop := Claim7.holds Tryd.pinned (.plain (OpenSpec.upto distanceLeastSpec)) distanceLeastUptoCard

/-- THE SECOND FORM's CARD OF 'shuttlelaw12.DistanceHolds'. -/
def distanceHoldsUptoCard : Claim7 := { stood := { row := distanceHoldsUptoRow, standIns := [], harness := (true, "1b8e1e54b5c428e301b27f8fc5eee1263024667c84f7628c25f29f9d004a5944"), looks := false }, kinds := [], alts := [], laidByText := true, laidKinds := [.data], laidTests := true, laidLooks := .later }
def DistanceHoldsUptoCardSaid : Prop := Claim7.holds Tryd.pinned (.plain (OpenSpec.upto distanceHoldsSpec)) distanceHoldsUptoCard

/-- THE SECOND FORM's CARD OF 'shuttlelaw12.DistanceGrows'. -/
def distanceGrowsUptoCard : Claim7 := { stood := { row := distanceGrowsUptoRow, standIns := [], harness := (true, "1b8e1e54b5c428e301b27f8fc5eee1263024667c84f7628c25f29f9d004a5944"), looks := false }, kinds := [], alts := [], laidByText := true, laidKinds := [.data], laidTests := true, laidLooks := .later }
def DistanceGrowsUptoCardSaid : Prop := Claim7.holds Tryd.pinned (.plain (OpenSpec.upto distanceGrowsSpec)) distanceGrowsUptoCard

/-- THE SECOND FORM's CARD OF 'shuttlelaw12.DistanceTurns'. -/
def distanceTurnsUptoCard : Claim7 := { stood := { row := distanceTurnsUptoRow, standIns := [], harness := (true, "1b8e1e54b5c428e301b27f8fc5eee1263024667c84f7628c25f29f9d004a5944"), looks := false }, kinds := [], alts := [], laidByText := true, laidKinds := [.data], laidTests := true, laidLooks := .later }
def DistanceTurnsUptoCardSaid : Prop := Claim7.holds Tryd.pinned (.plain (OpenSpec.upto distanceTurnsSpec)) distanceTurnsUptoCard
end Rows
end Go.Proofs.YtibddlldgmidlaaDoor
