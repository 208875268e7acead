/-
  DERIVED. GIVEN WITH THE SEED: THE CARDS: each row of YtpfahgogjeignaaGreatDoorRows.lean that lists a variable, with what it lists TIED to the program's text (the seventh form; the later family's looks); each row that meets fmt, with fmt's text TOLD by the authors' own Lean function (tested against real Go, not proved from fmt's source: count such statements apart). THE CARD IS WHAT COUNTS. Prove the row's statement (the work); the ties are given (YtpfahgogjeignaaGreatDoorTie.lean); close each card by the builder's one call (the guide's Derived/Test/ToyasCard.lean, 'card_holds'). Laid BY PROGRAM, IN A SANDBOX (cutbox-door.mjs). By AI agents, Wed Nov 11 2026. No macro, syntax, notation, axiom, sorry.
-/
import Derived.Test.YtpfahgogjeignaaGreatDoorRows
import GoSem.ClaimSeven
namespace Go.Proofs.YtpfahgogjeignaaGreatDoor
namespace Rows

/-- THE TIED CARD OF 'tollgatelaw.Moves'. -/
def movesCard : Claim7 := { stood := { row := movesRow, standIns := [], harness := (true, "023e026211a8850ed0aa99a0f5e02ef76fc632f7e9606850cf5c4d2add360075"), looks := false }, kinds := [], alts := [], laidByText := true, laidKinds := [.data, .data, .data], laidTests := true, laidLooks := .later }
def MovesCardSaid : Prop := Claim7.holds Tryz.pinned (.plain (OpenSpec.ofChange movesSpec)) movesCard

/-- THE TIED CARD OF 'tollgatelaw.Leases'. -/
def leasesCard : Claim7 := { stood := { row := leasesRow, standIns := [], harness := (true, "023e026211a8850ed0aa99a0f5e02ef76fc632f7e9606850cf5c4d2add360075"), looks := false }, kinds := [], alts := [], laidByText := true, laidKinds := [.data, .data, .data], laidTests := true, laidLooks := .later }
def LeasesCardSaid : Prop := Claim7.holds Tryz.pinned (.plain (OpenSpec.ofChange leasesSpec)) leasesCard

/-- THE TIED CARD OF 'tollgatelaw.Asks'. -/
def asksCard : Claim7 := { stood := { row := asksRow, standIns := [], harness := (true, "023e026211a8850ed0aa99a0f5e02ef76fc632f7e9606850cf5c4d2add360075"), looks := false }, kinds := [], alts := [], laidByText := true, laidKinds := [.data, .data, .data], laidTests := true, laidLooks := .later }
def AsksCardSaid : Prop := Claim7.holds Tryz.pinned (.plain (OpenSpec.ofChange asksSpec)) asksCard

/-- THE TIED CARD OF 'tollgatelaw.Levels'. -/
def levelsCard : Claim7 := { stood := { row := levelsRow, standIns := [], harness := (true, "023e026211a8850ed0aa99a0f5e02ef76fc632f7e9606850cf5c4d2add360075"), looks := false }, kinds := [], alts := [], laidByText := true, laidKinds := [.data, .data, .data], laidTests := true, laidLooks := .later }
def LevelsCardSaid : Prop := Claim7.holds Tryz.pinned (.plain (OpenSpec.ofChange levelsSpec)) levelsCard

/-- THE TIED CARD OF 'tollgatelaw.Joins'. -/
def joinsCard : Claim7 := { stood := { row := joinsRow, standIns := [], harness := (true, "023e026211a8850ed0aa99a0f5e02ef76fc632f7e9606850cf5c4d2add360075"), looks := false }, kinds := [], alts := [], laidByText := true, laidKinds := [.data, .data, .data], laidTests := true, laidLooks := .later }
def JoinsCardSaid : Prop := Claim7.holds Tryz.pinned (.plain (OpenSpec.ofChange joinsSpec)) joinsCard

/-- THE TIED CARD OF 'tollgatelaw.Waits'. -/
def waitsCard : Claim7 := { stood := { row := waitsRow, standIns := [], harness := (true, "023e026211a8850ed0aa99a0f5e02ef76fc632f7e9606850cf5c4d2add360075"), looks := false }, kinds := [], alts := [], laidByText := true, laidKinds := [.data, .data, .data], laidTests := true, laidLooks := .later }
def WaitsCardSaid : Prop := Claim7.holds Tryz.pinned (.plain (OpenSpec.ofChange waitsSpec)) waitsCard

/-- THE SECOND FORM's CARD OF 'tollgatelaw.Moves'. -/
def movesUptoCard : Claim7 := { stood := { row := movesUptoRow, standIns := [], harness := (true, "023e026211a8850ed0aa99a0f5e02ef76fc632f7e9606850cf5c4d2add360075"), looks := false }, kinds := [], alts := [], laidByText := true, laidKinds := [.data, .data, .data], laidTests := true, laidLooks := .later }
def MovesUptoCardSaid : Prop := Claim7.holds Tryz.pinned (.plain (OpenSpec.upto movesSpec)) movesUptoCard

/-- THE SECOND FORM's CARD OF 'tollgatelaw.Leases'. -/
def leasesUptoCard : Claim7 := { stood := { row := leasesUptoRow, standIns := [], harness := (true, "023e026211a8850ed0aa99a0f5e02ef76fc632f7e9606850cf5c4d2add360075"), looks := false }, kinds := [], alts := [], laidByText := true, laidKinds := [.data, .data, .data], laidTests := true, laidLooks := .later }
def LeasesUptoCardSaid : Prop := Claim7.holds Tryz.pinned (.plain (OpenSpec.upto leasesSpec)) leasesUptoCard

/-- THE SECOND FORM's CARD OF 'tollgatelaw.Asks'. -/
def asksUptoCard : Claim7 := { stood := { row := asksUptoRow, standIns := [], harness := (true, "023e026211a8850ed0aa99a0f5e02ef76fc632f7e9606850cf5c4d2add360075"), looks := false }, kinds := [], alts := [], laidByText := true, laidKinds := [.data, .data, .data], laidTests := true, laidLooks := .later }
def AsksUptoCardSaid : Prop := Claim7.holds Tryz.pinned (.plain (OpenSpec.upto asksSpec)) asksUptoCard

/-- THE SECOND FORM's CARD OF 'tollgatelaw.Levels'. -/
def levelsUptoCard : Claim7 := { stood := { row := levelsUptoRow, standIns := [], harness := (true, "023e026211a8850ed0aa99a0f5e02ef76fc632f7e9606850cf5c4d2add360075"), looks := false }, kinds := [], alts := [], laidByText := true, laidKinds := [.data, .data, .data], laidTests := true, laidLooks := .later }
def LevelsUptoCardSaid : Prop := Claim7.holds Tryz.pinned (.plain (OpenSpec.upto levelsSpec)) levelsUptoCard

/-- THE SECOND FORM's CARD OF 'tollgatelaw.Joins'. -/
def joinsUptoCard : Claim7 := { stood := { row := joinsUptoRow, standIns := [], harness := (true, "023e026211a8850ed0aa99a0f5e02ef76fc632f7e9606850cf5c4d2add360075"), looks := false }, kinds := [], alts := [], laidByText := true, laidKinds := [.data, .data, .data], laidTests := true, laidLooks := .later }
def JoinsUptoCardSaid : Prop := Claim7.holds Tryz.pinned (.plain (OpenSpec.upto joinsSpec)) joinsUptoCard

/-- THE SECOND FORM's CARD OF 'tollgatelaw.Waits'. -/
def waitsUptoCard : Claim7 := { stood := { row := waitsUptoRow, standIns := [], harness := (true, "023e026211a8850ed0aa99a0f5e02ef76fc632f7e9606850cf5c4d2add360075"), looks := false }, kinds := [], alts := [], laidByText := true, laidKinds := [.data, .data, .data], laidTests := true, laidLooks := .later }
def WaitsUptoCardSaid : Prop := Claim7.holds Tryz.pinned (.plain (OpenSpec.upto waitsSpec)) waitsUptoCard
end Rows
end Go.Proofs.YtpfahgogjeignaaGreatDoor
