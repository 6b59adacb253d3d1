/-
  DERIVED. GIVEN WITH THE SEED: THE CARDS: each row of YtcmoedhpedlalaaDoorRows.lean that lists a variable, with what it lists TIED to the program's text (the seventh form; the later family's looks); each row that meets fmt, with fmt's text TOLD by the authors' own Lean function (tested against real Go, not proved from fmt's source: count such statements apart). THE CARD IS WHAT COUNTS. Prove the row's statement (the work); the ties are given (YtcmoedhpedlalaaDoorTie.lean); close each card by the builder's one call (the guide's Derived/Test/ToyasCard.lean, 'card_holds'). Laid BY PROGRAM, IN A SANDBOX (cutbox-door.mjs). By AI agents, Wed Nov 11 2026. No macro, syntax, notation, axiom, sorry.
-/
import Derived.Test.YtcmoedhpedlalaaDoorRows
import GoSem.ClaimSeven
namespace Go.Proofs.YtcmoedhpedlalaaDoor
namespace Rows

/-- THE TIED CARD OF 'shuttlelaw17.HarqOffers'. -/
def harqOffersCard : Claim7 := { stood := { row := harqOffersRow, standIns := [], harness := (true, "fed8296f3b15526545fb228baaa4b2b285125c07f58ff0499be33723997c8676"), looks := false }, kinds := [], alts := [], laidByText := true, laidKinds := [.data], laidTests := true, laidLooks := .later }
def HarqOffersCardSaid : Prop := Claim7.holds Tryd.pinned (.plain (OpenSpec.ofChange harqOffersSpec)) harqOffersCard

/-- THE TIED CARD OF 'shuttlelaw17.HarqAlone'. -/
def harqAloneCard : Claim7 := { stood := { row := harqAloneRow, standIns := [], harness := (true, "fed8296f3b15526545fb228baaa4b2b285125c07f58ff0499be33723997c8676"), looks := false }, kinds := [], alts := [], laidByText := true, laidKinds := [.data], laidTests := true, laidLooks := .later }
def HarqAloneCardSaid : Prop := Claim7.holds Tryd.pinned (.plain (OpenSpec.ofChange harqAloneSpec)) harqAloneCard

/-- THE TIED CARD OF 'shuttlelaw17.HarqMends'. -/
def harqMendsCard : Claim7 := { stood := { row := harqMendsRow, standIns := [], harness := (true, "fed8296f3b15526545fb228baaa4b2b285125c07f58ff0499be33723997c8676"), looks := false }, kinds := [], alts := [], laidByText := true, laidKinds := [.data], laidTests := true, laidLooks := .later }
def HarqMendsCardSaid : Prop := Claim7.holds Tryd.pinned (.plain (OpenSpec.ofChange harqMendsSpec)) harqMendsCard

/-- THE TIED CARD OF 'shuttlelaw17.HarqVersions'. -/
def harqVersionsCard : Claim7 := { stood := { row := harqVersionsRow, standIns := [], harness := (true, "fed8296f3b15526545fb228baaa4b2b285125c07f58ff0499be33723997c8676"), looks := false }, kinds := [], alts := [], laidByText := true, laidKinds := [.data], laidTests := true, laidLooks := .later }
def HarqVersionsCardSaid : Prop := Claim7.holds Tryd.pinned (.plain (OpenSpec.ofChange harqVersionsSpec)) harqVersionsCard

/-- THE TIED CARD OF 'shuttlelaw17.HarqAnew'. -/
def harqAnewCard : Claim7 := { stood := { row := harqAnewRow, standIns := [], harness := (true, "fed8296f3b15526545fb228baaa4b2b285125c07f58ff0499be33723997c8676"), looks := false }, kinds := [], alts := [], laidByText := true, laidKinds := [.data], laidTests := true, laidLooks := .later }
def HarqAnewCardSaid : Prop := Claim7.holds Tryd.pinned (.plain (OpenSpec.ofChange harqAnewSpec)) harqAnewCard

/-- THE TIED CARD OF 'shuttlelaw18.PoolKeeps'. -/
def poolKeepsCard : Claim7 := { stood := { row := poolKeepsRow, standIns := [], harness := (true, "fed8296f3b15526545fb228baaa4b2b285125c07f58ff0499be33723997c8676"), looks := false }, kinds := [], alts := [], laidByText := true, laidKinds := [.data], laidTests := true, laidLooks := .later }
def PoolKeepsCardSaid : Prop := Claim7.holds Tryd.pinned (.plain (OpenSpec.ofChange poolKeepsSpec)) poolKeepsCard

/-- THE TIED CARD OF 'shuttlelaw12.DistanceHolds'. -/
def distanceHoldsCard : Claim7 := { stood := { row := distanceHoldsRow, standIns := [], harness := (true, "fed8296f3b15526545fb228baaa4b2b285125c07f58ff0499be33723997c8676"), looks := false }, kinds := [], alts := [], laidByText := true, laidKinds := [.data], laidTests := true, laidLooks := .later }
def DistanceHoldsCardSaid : Prop := Claim7.holds Tryd.pinned (.plain (OpenSpec.ofChange distanceHoldsSpec)) distanceHoldsCard

/-- THE TIED CARD OF 'shuttlelaw13.CombineAdds'. -/
def combineAddsCard : Claim7 := { stood := { row := combineAddsRow, standIns := [], harness := (true, "fed8296f3b15526545fb228baaa4b2b285125c07f58ff0499be33723997c8676"), looks := false }, kinds := [], alts := [], laidByText := true, laidKinds := [.data], laidTests := true, laidLooks := .later }
def CombineAddsCardSaid : Prop := Claim7.holds Tryd.pinned (.plain (OpenSpec.ofChange combineAddsSpec)) combineAddsCard

/-- THE TIED CARD OF 'shuttlelaw13.CombineOrder'. -/
def combineOrderCard : Claim7 := { stood := { row := combineOrderRow, standIns := [], harness := (true, "fed8296f3b15526545fb228baaa4b2b285125c07f58ff0499be33723997c8676"), looks := false }, kinds := [], alts := [], laidByText := true, laidKinds := [.data], laidTests := true, laidLooks := .later }
def CombineOrderCardSaid : Prop := Claim7.holds Tryd.pinned (.plain (OpenSpec.ofChange combineOrderSpec)) combineOrderCard

/-- THE SECOND FORM's CARD OF 'shuttlelaw17.HarqOffers'. -/
def harqOffersUptoCard : Claim7 := { stood := { row := harqOffersUptoRow, standIns := [], harness := (true, "fed8296f3b15526545fb228baaa4b2b285125c07f58ff0499be33723997c8676"), looks := false }, kinds := [], alts := [], laidByText := true, laidKinds := [.data], laidTests := true, laidLooks := .later }
def HarqOffersUptoCardSaid : Prop := Claim7.holds Tryd.pinned (.plain (OpenSpec.upto harqOffersSpec)) harqOffersUptoCard

/-- THE SECOND FORM's CARD OF 'shuttlelaw17.HarqAlone'. -/
def harqAloneUptoCard : Claim7 := { stood := { row := harqAloneUptoRow, standIns := [], harness := (true, "fed8296f3b15526545fb228baaa4b2b285125c07f58ff0499be33723997c8676"), looks := false }, kinds := [], alts := [], laidByText := true, laidKinds := [.data], laidTests := true, laidLooks := .later }
def HarqAloneUptoCardSaid : Prop := Claim7.holds Tryd.pinned (.plain (OpenSpec.upto harqAloneSpec)) harqAloneUptoCard

/-- THE SECOND FORM's CARD OF 'shuttlelaw17.HarqMends'. -/
def harqMendsUptoCard : Claim7 := { stood := { row := harqMendsUptoRow, standIns := [], harness := (true, "fed8296f3b15526545fb228baaa4b2b285125c07f58ff0499be33723997c8676"), looks := false }, kinds := [], alts := [], laidByText := true, laidKinds := [.data], laidTests := true, laidLooks := .later }
def HarqMendsUptoCardSaid : Prop := Claim7.holds Tryd.pinned (.plain (OpenSpec.upto harqMendsSpec)) harqMendsUptoCard

/-- THE SECOND FORM's CARD OF 'shuttlelaw17.HarqVersions'. -/
def harqVersionsUptoCard : Claim7 := { stood := { row := harqVersionsUptoRow, standIns := [], harness := (true, "fed8296f3b15526545fb228baaa4b2b285125c07f58ff0499be33723997c8676"), looks := false }, kinds := [], alts := [], laidByText := true, laidKinds := [.data], laidTests := true, laidLooks := .later }
def HarqVersionsUptoCardSaid : Prop := Claim7.holds Tryd.pinned (.plain (OpenSpec.upto harqVersionsSpec)) harqVersionsUptoCard

/-- THE SECOND FORM's CARD OF 'shuttlelaw17.HarqAnew'. -/
def harqAnewUptoCard : Claim7 := { stood := { row := harqAnewUptoRow, standIns := [], harness := (true, "fed8296f3b15526545fb228baaa4b2b285125c07f58ff0499be33723997c8676"), looks := false }, kinds := [], alts := [], laidByText := true, laidKinds := [.data], laidTests := true, laidLooks := .later }
def HarqAnewUptoCardSaid : Prop := Claim7.holds Tryd.pinned (.plain (OpenSpec.upto harqAnewSpec)) harqAnewUptoCard

/-- THE SECOND FORM's CARD OF 'shuttlelaw18.PoolKeeps'. -/
def poolKeepsUptoCard : Claim7 := { stood := { row := poolKeepsUptoRow, standIns := [], harness := (true, "fed8296f3b15526545fb228baaa4b2b285125c07f58ff0499be33723997c8676"), looks := false }, kinds := [], alts := [], laidByText := true, laidKinds := [.data], laidTests := true, laidLooks := .later }
def PoolKeepsUptoCardSaid : Prop := Claim7.holds Tryd.pinned (.plain (OpenSpec.upto poolKeepsSpec)) poolKeepsUptoCard

/-- THE SECOND FORM's CARD OF 'shuttlelaw12.DistanceHolds'. -/
def distanceHoldsUptoCard : Claim7 := { stood := { row := distanceHoldsUptoRow, standIns := [], harness := (true, "fed8296f3b15526545fb228baaa4b2b285125c07f58ff0499be33723997c8676"), looks := false }, kinds := [], alts := [], laidByText := true, laidKinds := [.data], laidTests := true, laidLooks := .later }
def DistanceHoldsUptoCardSaid : Prop := Claim7.holds Tryd.pinned (.plain (OpenSpec.upto distanceHoldsSpec)) distanceHoldsUptoCard

/-- THE SECOND FORM's CARD OF 'shuttlelaw13.CombineAdds'. -/
def combineAddsUptoCard : Claim7 := { stood := { row := combineAddsUptoRow, standIns := [], harness := (true, "fed8296f3b15526545fb228baaa4b2b285125c07f58ff0499be33723997c8676"), looks := false }, kinds := [], alts := [], laidByText := true, laidKinds := [.data], laidTests := true, laidLooks := .later }
def CombineAddsUptoCardSaid : Prop := Claim7.holds Tryd.pinned (.plain (OpenSpec.upto combineAddsSpec)) combineAddsUptoCard

/-- THE SECOND FORM's CARD OF 'shuttlelaw13.CombineOrder'. -/
def combineOrderUptoCard : Claim7 := { stood := { row := combineOrderUptoRow, standIns := [], harness := (true, "fed8296f3b15526545fb228baaa4b2b285125c07f58ff0499be33723997c8676"), looks := false }, kinds := [], alts := [], laidByText := true, laidKinds := [.data], laidTests := true, laidLooks := .later }
def CombineOrderUptoCardSaid : Prop := Claim7.holds Tryd.pinned (.plain (OpenSpec.upto combineOrderSpec)) combineOrderUptoCard
end Rows
end Go.Proofs.YtcmoedhpedlalaaDoor
