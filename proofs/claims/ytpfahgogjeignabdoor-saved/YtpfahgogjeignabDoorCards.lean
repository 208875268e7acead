/-
  DERIVED. GIVEN WITH THE SEED: THE CARDS: each row of YtpfahgogjeignabDoorRows.lean that lists a variable, with what it lists TIED to the program's text (the seventh form; the later family's looks); each row that meets fmt, with fmt's text TOLD by the authors' own Lean function (tested against real Go, not proved from fmt's source: count such statements apart). THE CARD IS WHAT COUNTS. Prove the row's statement (the work); the ties are given (YtpfahgogjeignabDoorTie.lean); close each card by the builder's one call (the guide's Derived/Test/ToyasCard.lean, 'card_holds'). Laid BY PROGRAM, IN A SANDBOX (cutbox-door.mjs). By AI agents, Wed Nov 11 2026. No macro, syntax, notation, axiom, sorry.
-/
import Derived.Test.YtpfahgogjeignabDoorRows
import GoSem.ClaimSeven
namespace Go.Proofs.YtpfahgogjeignabDoor
namespace Rows

/-- THE TIED CARD OF 'tollgatekeep.Saved'. -/
def savedCard : Claim7 := { stood := { row := savedRow, standIns := [], harness := (true, "1bc1a0f0697193ef3a37cd10483b5bf39f20bc76ea333049b75c5709ab899997"), looks := false }, kinds := [], alts := [], laidByText := true, laidKinds := [.data, .data, .data], laidTests := true, laidLooks := .later }
def SavedCardSaid : Prop := Claim7.holds Tryd.pinned (.plain (OpenSpec.ofChange savedSpec)) savedCard

/-- THE TIED CARD OF 'tollgatekeep.Garbage'. -/
def garbageCard : Claim7 := { stood := { row := garbageRow, standIns := [], harness := (true, "1bc1a0f0697193ef3a37cd10483b5bf39f20bc76ea333049b75c5709ab899997"), looks := false }, kinds := [], alts := [], laidByText := true, laidKinds := [.data, .data, .data], laidTests := true, laidLooks := .later }
def GarbageCardSaid : Prop := Claim7.holds Tryd.pinned (.plain (OpenSpec.ofChange garbageSpec)) garbageCard

/-- THE SECOND FORM's CARD OF 'tollgatekeep.Saved'. -/
def savedUptoCard : Claim7 := { stood := { row := savedUptoRow, standIns := [], harness := (true, "1bc1a0f0697193ef3a37cd10483b5bf39f20bc76ea333049b75c5709ab899997"), looks := false }, kinds := [], alts := [], laidByText := true, laidKinds := [.data, .data, .data], laidTests := true, laidLooks := .later }
def SavedUptoCardSaid : Prop := Claim7.holds Tryd.pinned (.plain (OpenSpec.upto savedSpec)) savedUptoCard

/-- THE SECOND FORM's CARD OF 'tollgatekeep.Garbage'. -/
def garbageUptoCard : Claim7 := { stood := { row := garbageUptoRow, standIns := [], harness := (true, "1bc1a0f0697193ef3a37cd10483b5bf39f20bc76ea333049b75c5709ab899997"), looks := false }, kinds := [], alts := [], laidByText := true, laidKinds := [.data, .data, .data], laidTests := true, laidLooks := .later }
def GarbageUptoCardSaid : Prop := Claim7.holds Tryd.pinned (.plain (OpenSpec.upto garbageSpec)) garbageUptoCard
end Rows
end Go.Proofs.YtpfahgogjeignabDoor
