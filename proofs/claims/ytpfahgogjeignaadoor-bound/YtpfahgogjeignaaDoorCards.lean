/-
  DERIVED. GIVEN WITH THE SEED: THE CARDS: each row of YtpfahgogjeignaaDoorRows.lean that lists a variable, with what it lists TIED to the program's text (the seventh form; the later family's looks); each row that meets fmt, with fmt's text TOLD by the authors' own Lean function (tested against real Go, not proved from fmt's source: count such statements apart). THE CARD IS WHAT COUNTS. Prove the row's statement (the work); the ties are given (YtpfahgogjeignaaDoorTie.lean); close each card by the builder's one call (the guide's Derived/Test/ToyasCard.lean, 'card_holds'). Laid BY PROGRAM, IN A SANDBOX (cutbox-door.mjs). By AI agents, Wed Nov 11 2026. No macro, syntax, notation, axiom, sorry.
-/
import Derived.Test.YtpfahgogjeignaaDoorRows
import GoSem.ClaimSeven
namespace Go.Proofs.YtpfahgogjeignaaDoor
namespace Rows

/-- THE TIED CARD OF 'tollgatelaw.News'. -/
def newsCard : Claim7 := { stood := { row := newsRow, standIns := [], harness := (true, "64cb0f21befe7323c4c051e940d49c7c719105be53c77d6c66d91a7ba14803ce"), looks := false }, kinds := [], alts := [], laidByText := true, laidKinds := [.data, .data, .data], laidTests := true, laidLooks := .later }
def NewsCardSaid : Prop := Claim7.holds Tryd.pinned (.plain (OpenSpec.ofChange newsSpec)) newsCard

/-- THE TIED CARD OF 'tollgatelaw.All'. -/
def allCard : Claim7 := { stood := { row := allRow, standIns := [], harness := (true, "64cb0f21befe7323c4c051e940d49c7c719105be53c77d6c66d91a7ba14803ce"), looks := false }, kinds := [], alts := [], laidByText := true, laidKinds := [.data, .data, .data], laidTests := true, laidLooks := .later }
def AllCardSaid : Prop := Claim7.holds Tryd.pinned (.plain (OpenSpec.ofChange allSpec)) allCard

/-- THE TIED CARD OF 'tollgatekeep.Bound'. -/
def boundCard : Claim7 := { stood := { row := boundRow, standIns := [], harness := (true, "64cb0f21befe7323c4c051e940d49c7c719105be53c77d6c66d91a7ba14803ce"), looks := false }, kinds := [], alts := [], laidByText := true, laidKinds := [.data, .data, .data], laidTests := true, laidLooks := .later }
def BoundCardSaid : Prop := Claim7.holds Tryd.pinned (.plain (OpenSpec.ofChange boundSpec)) boundCard

/-- THE TIED CARD OF 'tollgatekeep.Mirrored'. -/
def mirroredCard : Claim7 := { stood := { row := mirroredRow, standIns := [], harness := (true, "64cb0f21befe7323c4c051e940d49c7c719105be53c77d6c66d91a7ba14803ce"), looks := false }, kinds := [], alts := [], laidByText := true, laidKinds := [.data, .data, .data], laidTests := true, laidLooks := .later }
def MirroredCardSaid : Prop := Claim7.holds Tryd.pinned (.plain (OpenSpec.ofChange mirroredSpec)) mirroredCard

/-- THE SECOND FORM's CARD OF 'tollgatelaw.News'. -/
def newsUptoCard : Claim7 := { stood := { row := newsUptoRow, standIns := [], harness := (true, "64cb0f21befe7323c4c051e940d49c7c719105be53c77d6c66d91a7ba14803ce"), looks := false }, kinds := [], alts := [], laidByText := true, laidKinds := [.data, .data, .data], laidTests := true, laidLooks := .later }
def NewsUptoCardSaid : Prop := Claim7.holds Tryd.pinned (.plain (OpenSpec.upto newsSpec)) newsUptoCard

/-- THE SECOND FORM's CARD OF 'tollgatelaw.All'. -/
def allUptoCard : Claim7 := { stood := { row := allUptoRow, standIns := [], harness := (true, "64cb0f21befe7323c4c051e940d49c7c719105be53c77d6c66d91a7ba14803ce"), looks := false }, kinds := [], alts := [], laidByText := true, laidKinds := [.data, .data, .data], laidTests := true, laidLooks := .later }
def AllUptoCardSaid : Prop := Claim7.holds Tryd.pinned (.plain (OpenSpec.upto allSpec)) allUptoCard

/-- THE SECOND FORM's CARD OF 'tollgatekeep.Bound'. -/
def boundUptoCard : Claim7 := { stood := { row := boundUptoRow, standIns := [], harness := (true, "64cb0f21befe7323c4c051e940d49c7c719105be53c77d6c66d91a7ba14803ce"), looks := false }, kinds := [], alts := [], laidByText := true, laidKinds := [.data, .data, .data], laidTests := true, laidLooks := .later }
def BoundUptoCardSaid : Prop := Claim7.holds Tryd.pinned (.plain (OpenSpec.upto boundSpec)) boundUptoCard

/-- THE SECOND FORM's CARD OF 'tollgatekeep.Mirrored'. -/
def mirroredUptoCard : Claim7 := { stood := { row := mirroredUptoRow, standIns := [], harness := (true, "64cb0f21befe7323c4c051e940d49c7c719105be53c77d6c66d91a7ba14803ce"), looks := false }, kinds := [], alts := [], laidByText := true, laidKinds := [.data, .data, .data], laidTests := true, laidLooks := .later }
def MirroredUptoCardSaid : Prop := Claim7.holds Tryd.pinned (.plain (OpenSpec.upto mirroredSpec)) mirroredUptoCard
end Rows
end Go.Proofs.YtpfahgogjeignaaDoor
