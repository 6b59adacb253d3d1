/-
  DERIVED. GIVEN WITH THE SEED: THE CARDS: each row of YtlnjealhiikmeaaDoorRows.lean that lists a variable, with what it lists TIED to the program's text (the seventh form; the later family's looks); each row that meets fmt, with fmt's text TOLD by the authors' own Lean function (tested against real Go, not proved from fmt's source: count such statements apart). THE CARD IS WHAT COUNTS. Prove the row's statement (the work); the ties are given (YtlnjealhiikmeaaDoorTie.lean); close each card by the builder's one call (the guide's Derived/Test/ToyasCard.lean, 'card_holds'). Laid BY PROGRAM, IN A SANDBOX (cutbox-door.mjs). By AI agents, Wed Nov 11 2026. No macro, syntax, notation, axiom, sorry.
-/
import Derived.Test.YtlnjealhiikmeaaDoorRows
import GoSem.ClaimSeven
namespace Go.Proofs.YtlnjealhiikmeaaDoor
namespace Rows

/-- THE TIED CARD OF 'shuttlelaw06.ConvSteps'. -/
def convStepsCard : Claim7 := { stood := { row := convStepsRow, standIns := [], harness := (true, "19f39bb74d2967923223dcdcd7fc19cad53663ab37642eece90a60419d5895b9"), looks := false }, kinds := [], alts := [], laidByText := true, laidKinds := [.data], laidTests := true, laidLooks := .later }
def ConvStepsCardSaid : Prop := Claim7.holds Tryd.pinned (.plain (OpenSpec.ofChange convStepsSpec)) convStepsCard

/-- THE TIED CARD OF 'shuttlelaw06.ConvCodes'. -/
def convCodesCard : Claim7 := { stood := { row := convCodesRow, standIns := [], harness := (true, "19f39bb74d2967923223dcdcd7fc19cad53663ab37642eece90a60419d5895b9"), looks := false }, kinds := [], alts := [], laidByText := true, laidKinds := [.data], laidTests := true, laidLooks := .later }
def ConvCodesCardSaid : Prop := Claim7.holds Tryd.pinned (.plain (OpenSpec.ofChange convCodesSpec)) convCodesCard

/-- THE TIED CARD OF 'shuttlelaw06.ConvAdds'. -/
def convAddsCard : Claim7 := { stood := { row := convAddsRow, standIns := [], harness := (true, "19f39bb74d2967923223dcdcd7fc19cad53663ab37642eece90a60419d5895b9"), looks := false }, kinds := [], alts := [], laidByText := true, laidKinds := [.data], laidTests := true, laidLooks := .later }
def ConvAddsCardSaid : Prop := Claim7.holds Tryd.pinned (.plain (OpenSpec.ofChange convAddsSpec)) convAddsCard

/-- THE TIED CARD OF 'shuttlelaw06.ConvAlone'. -/
def convAloneCard : Claim7 := { stood := { row := convAloneRow, standIns := [], harness := (true, "19f39bb74d2967923223dcdcd7fc19cad53663ab37642eece90a60419d5895b9"), looks := false }, kinds := [], alts := [], laidByText := true, laidKinds := [.data], laidTests := true, laidLooks := .later }
def ConvAloneCardSaid : Prop := Claim7.holds Tryd.pinned (.plain (OpenSpec.ofChange convAloneSpec)) convAloneCard

/-- THE TIED CARD OF 'shuttlelaw06.ConvLate'. -/
def convLateCard : Claim7 := { stood := { row := convLateRow, standIns := [], harness := (true, "19f39bb74d2967923223dcdcd7fc19cad53663ab37642eece90a60419d5895b9"), looks := false }, kinds := [], alts := [], laidByText := true, laidKinds := [.data], laidTests := true, laidLooks := .later }
def ConvLateCardSaid : Prop := Claim7.holds Tryd.pinned (.plain (OpenSpec.ofChange convLateSpec)) convLateCard

/-- THE TIED CARD OF 'shuttlelaw07.TrellisEdges'. -/
def trellisEdgesCard : Claim7 := { stood := { row := trellisEdgesRow, standIns := [], harness := (true, "19f39bb74d2967923223dcdcd7fc19cad53663ab37642eece90a60419d5895b9"), looks := false }, kinds := [], alts := [], laidByText := true, laidKinds := [.data], laidTests := true, laidLooks := .later }
def TrellisEdgesCardSaid : Prop := Claim7.holds Tryd.pinned (.plain (OpenSpec.ofChange trellisEdgesSpec)) trellisEdgesCard

/-- THE TIED CARD OF 'shuttlelaw07.TrellisPaths'. -/
def trellisPathsCard : Claim7 := { stood := { row := trellisPathsRow, standIns := [], harness := (true, "19f39bb74d2967923223dcdcd7fc19cad53663ab37642eece90a60419d5895b9"), looks := false }, kinds := [], alts := [], laidByText := true, laidKinds := [.data], laidTests := true, laidLooks := .later }
def TrellisPathsCardSaid : Prop := Claim7.holds Tryd.pinned (.plain (OpenSpec.ofChange trellisPathsSpec)) trellisPathsCard

/-- THE TIED CARD OF 'shuttlelaw07.TrellisBack'. -/
def trellisBackCard : Claim7 := { stood := { row := trellisBackRow, standIns := [], harness := (true, "19f39bb74d2967923223dcdcd7fc19cad53663ab37642eece90a60419d5895b9"), looks := false }, kinds := [], alts := [], laidByText := true, laidKinds := [.data], laidTests := true, laidLooks := .later }
def TrellisBackCardSaid : Prop := Claim7.holds Tryd.pinned (.plain (OpenSpec.ofChange trellisBackSpec)) trellisBackCard

/-- THE SECOND FORM's CARD OF 'shuttlelaw06.ConvSteps'. -/
def convStepsUptoCard : Claim7 := { stood := { row := convStepsUptoRow, standIns := [], harness := (true, "19f39bb74d2967923223dcdcd7fc19cad53663ab37642eece90a60419d5895b9"), looks := false }, kinds := [], alts := [], laidByText := true, laidKinds := [.data], laidTests := true, laidLooks := .later }
def ConvStepsUptoCardSaid : Prop := Claim7.holds Tryd.pinned (.plain (OpenSpec.upto convStepsSpec)) convStepsUptoCard

/-- THE SECOND FORM's CARD OF 'shuttlelaw06.ConvCodes'. -/
def convCodesUptoCard : Claim7 := { stood := { row := convCodesUptoRow, standIns := [], harness := (true, "19f39bb74d2967923223dcdcd7fc19cad53663ab37642eece90a60419d5895b9"), looks := false }, kinds := [], alts := [], laidByText := true, laidKinds := [.data], laidTests := true, laidLooks := .later }
def ConvCodesUptoCardSaid : Prop := Claim7.holds Tryd.pinned (.plain (OpenSpec.upto convCodesSpec)) convCodesUptoCard

/-- THE SECOND FORM's CARD OF 'shuttlelaw06.ConvAdds'. -/
def convAddsUptoCard : Claim7 := { stood := { row := convAddsUptoRow, standIns := [], harness := (true, "19f39bb74d2967923223dcdcd7fc19cad53663ab37642eece90a60419d5895b9"), looks := false }, kinds := [], alts := [], laidByText := true, laidKinds := [.data], laidTests := true, laidLooks := .later }
def ConvAddsUptoCardSaid : Prop := Claim7.holds Tryd.pinned (.plain (OpenSpec.upto convAddsSpec)) convAddsUptoCard

/-- THE SECOND FORM's CARD OF 'shuttlelaw06.ConvAlone'. -/
def convAloneUptoCard : Claim7 := { stood := { row := convAloneUptoRow, standIns := [], harness := (true, "19f39bb74d2967923223dcdcd7fc19cad53663ab37642eece90a60419d5895b9"), looks := false }, kinds := [], alts := [], laidByText := true, laidKinds := [.data], laidTests := true, laidLooks := .later }
def ConvAloneUptoCardSaid : Prop := Claim7.holds Tryd.pinned (.plain (OpenSpec.upto convAloneSpec)) convAloneUptoCard

/-- THE SECOND FORM's CARD OF 'shuttlelaw06.ConvLate'. -/
def convLateUptoCard : Claim7 := { stood := { row := convLateUptoRow, standIns := [], harness := (true, "19f39bb74d2967923223dcdcd7fc19cad53663ab37642eece90a60419d5895b9"), looks := false }, kinds := [], alts := [], laidByText := true, laidKinds := [.data], laidTests := true, laidLooks := .later }
def ConvLateUptoCardSaid : Prop := Claim7.holds Tryd.pinned (.plain (OpenSpec.upto convLateSpec)) convLateUptoCard

/-- THE SECOND FORM's CARD OF 'shuttlelaw07.TrellisEdges'. -/
def trellisEdgesUptoCard : Claim7 := { stood := { row := trellisEdgesUptoRow, standIns := [], harness := (true, "19f39bb74d2967923223dcdcd7fc19cad53663ab37642eece90a60419d5895b9"), looks := false }, kinds := [], alts := [], laidByText := true, laidKinds := [.data], laidTests := true, laidLooks := .later }
def TrellisEdgesUptoCardSaid : Prop := Claim7.holds Tryd.pinned (.plain (OpenSpec.upto trellisEdgesSpec)) trellisEdgesUptoCard

/-- THE SECOND FORM's CARD OF 'shuttlelaw07.TrellisPaths'. -/
def trellisPathsUptoCard : Claim7 := { stood := { row := trellisPathsUptoRow, standIns := [], harness := (true, "19f39bb74d2967923223dcdcd7fc19cad53663ab37642eece90a60419d5895b9"), looks := false }, kinds := [], alts := [], laidByText := true, laidKinds := [.data], laidTests := true, laidLooks := .later }
def TrellisPathsUptoCardSaid : Prop := Claim7.holds Tryd.pinned (.plain (OpenSpec.upto trellisPathsSpec)) trellisPathsUptoCard

/-- THE SECOND FORM's CARD OF 'shuttlelaw07.TrellisBack'. -/
def trellisBackUptoCard : Claim7 := { stood := { row := trellisBackUptoRow, standIns := [], harness := (true, "19f39bb74d2967923223dcdcd7fc19cad53663ab37642eece90a60419d5895b9"), looks := false }, kinds := [], alts := [], laidByText := true, laidKinds := [.data], laidTests := true, laidLooks := .later }
def TrellisBackUptoCardSaid : Prop := Claim7.holds Tryd.pinned (.plain (OpenSpec.upto trellisBackSpec)) trellisBackUptoCard
end Rows
end Go.Proofs.YtlnjealhiikmeaaDoor
