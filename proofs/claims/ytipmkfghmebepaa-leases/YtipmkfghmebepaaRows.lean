/-
  No cell of these rows narrows 'for every input' (looked for: loops, veiled, ifaces, maps, wideKeys, modest, calm, conditions, laid).
  DERIVED. THE GIVEN ROWS OF THIS SEAT. 6 by the template 'for every input the law returns true; each argument reads behind the call as it read before'; 0 by the template 'total and deterministic' (their statements: YtipmkfghmebepaaTotals.lean).
  GIVEN WITH THE SEED: the statements are not yours to turn. If you find one false, say at which input.
  Laid BY PROGRAM, IN A SANDBOX (cutbox-rows.mjs): the forced cells as the released guide's own fill.sh prints them over the translation 047ac2308699810a… (all of the seat's roots in one cut). By AI agents, Wed Nov 11 2026. No macro, syntax, notation, axiom, sorry.
-/
import Derived.Test.YtipmkfghmebepaaChecked
import GoSem.Claim
import GoSem.ClaimJoined
import GoSem.ClaimMapViews
import Derived.JoinedTies
import Derived.KernelRfl
namespace Go.Proofs.Ytipmkfghmebepaa
/- THE CELL 'sum', in the pinned program and in every row, IS THE sha256 OF THE DUMP (.gsa) THAT YtipmkfghmebepaaProg.lean LOADS. Nothing in Lean hashes anything: it is a label: what it is worth is what the hold of that sum in a sandbox is worth. -/
noncomputable def Try.pinned : Pinned := { name := "ytipmkfghmebepaa", sum := "047ac2308699810a4040b20bdbef33a21ed42c2f4764585e039c7702eb6940ae", checked := Try.checked }
namespace Rows
def none {H : Type} : Left H := { results := [], args := [] }

/-- 'tollgatelaw.News': WHATEVER THE INPUT: true; the input reads as it did. -/
def newsSpec : ChangeSpec := { name := "news", fn := fun _ => fun
  | [d] => { results := [.lit (.bool true)], args := [d] }
  | _ => none }
def newsRow : OpenClaim := { program := "ytipmkfghmebepaa", sum := "047ac2308699810a4040b20bdbef33a21ed42c2f4764585e039c7702eb6940ae", func := "tollgate/tollgatelaw.News", spec := "news", apart := false }
def NewsSaid : Prop := newsRow.holds Try.pinned (OpenSpec.ofChange newsSpec)

/-- ITS FALSE NEIGHBOUR: 'it returns false'. Refute it at one input. -/
def newsWrong : ChangeSpec := { name := "news", fn := fun _ => fun
  | [d] => { results := [.lit (.bool false)], args := [d] }
  | _ => none }
def NewsWrongFalsely : Prop := newsRow.holds Try.pinned (OpenSpec.ofChange newsWrong)

/-- 'tollgatelaw.Moves': WHATEVER THE INPUT: true; the input reads as it did. -/
def movesSpec : ChangeSpec := { name := "moves", fn := fun _ => fun
  | [d1, d2] => { results := [.lit (.bool true)], args := [d1, d2] }
  | _ => none }
def movesRow : OpenClaim := { program := "ytipmkfghmebepaa", sum := "047ac2308699810a4040b20bdbef33a21ed42c2f4764585e039c7702eb6940ae", func := "tollgate/tollgatelaw.Moves", spec := "moves", apart := false }
def MovesSaid : Prop := movesRow.holds Try.pinned (OpenSpec.ofChange movesSpec)

/-- ITS FALSE NEIGHBOUR: 'it returns false'. Refute it at one input. -/
def movesWrong : ChangeSpec := { name := "moves", fn := fun _ => fun
  | [d1, d2] => { results := [.lit (.bool false)], args := [d1, d2] }
  | _ => none }
def MovesWrongFalsely : Prop := movesRow.holds Try.pinned (OpenSpec.ofChange movesWrong)

/-- 'tollgatelaw.Leases': WHATEVER THE INPUT: true; the input reads as it did. -/
def leasesSpec : ChangeSpec := { name := "leases", fn := fun _ => fun
  | [d1, d2] => { results := [.lit (.bool true)], args := [d1, d2] }
  | _ => none }
def leasesRow : OpenClaim := { program := "ytipmkfghmebepaa", sum := "047ac2308699810a4040b20bdbef33a21ed42c2f4764585e039c7702eb6940ae", func := "tollgate/tollgatelaw.Leases", spec := "leases", apart := false }
def LeasesSaid : Prop := leasesRow.holds Try.pinned (OpenSpec.ofChange leasesSpec)

/-- ITS FALSE NEIGHBOUR: 'it returns false'. Refute it at one input. -/
def leasesWrong : ChangeSpec := { name := "leases", fn := fun _ => fun
  | [d1, d2] => { results := [.lit (.bool false)], args := [d1, d2] }
  | _ => none }
def LeasesWrongFalsely : Prop := leasesRow.holds Try.pinned (OpenSpec.ofChange leasesWrong)

/-- 'tollgatelaw.Asks': WHATEVER THE INPUT: true; the input reads as it did. -/
def asksSpec : ChangeSpec := { name := "asks", fn := fun _ => fun
  | [d1, d2] => { results := [.lit (.bool true)], args := [d1, d2] }
  | _ => none }
def asksRow : OpenClaim := { program := "ytipmkfghmebepaa", sum := "047ac2308699810a4040b20bdbef33a21ed42c2f4764585e039c7702eb6940ae", func := "tollgate/tollgatelaw.Asks", spec := "asks", apart := false }
def AsksSaid : Prop := asksRow.holds Try.pinned (OpenSpec.ofChange asksSpec)

/-- ITS FALSE NEIGHBOUR: 'it returns false'. Refute it at one input. -/
def asksWrong : ChangeSpec := { name := "asks", fn := fun _ => fun
  | [d1, d2] => { results := [.lit (.bool false)], args := [d1, d2] }
  | _ => none }
def AsksWrongFalsely : Prop := asksRow.holds Try.pinned (OpenSpec.ofChange asksWrong)

/-- 'tollgatelaw.Levels': WHATEVER THE INPUT: true; the input reads as it did. -/
def levelsSpec : ChangeSpec := { name := "levels", fn := fun _ => fun
  | [d1, d2] => { results := [.lit (.bool true)], args := [d1, d2] }
  | _ => none }
def levelsRow : OpenClaim := { program := "ytipmkfghmebepaa", sum := "047ac2308699810a4040b20bdbef33a21ed42c2f4764585e039c7702eb6940ae", func := "tollgate/tollgatelaw.Levels", spec := "levels", apart := false }
def LevelsSaid : Prop := levelsRow.holds Try.pinned (OpenSpec.ofChange levelsSpec)

/-- ITS FALSE NEIGHBOUR: 'it returns false'. Refute it at one input. -/
def levelsWrong : ChangeSpec := { name := "levels", fn := fun _ => fun
  | [d1, d2] => { results := [.lit (.bool false)], args := [d1, d2] }
  | _ => none }
def LevelsWrongFalsely : Prop := levelsRow.holds Try.pinned (OpenSpec.ofChange levelsWrong)

/-- 'tollgatelaw.Waits': WHATEVER THE INPUT: true; the input reads as it did. -/
def waitsSpec : ChangeSpec := { name := "waits", fn := fun _ => fun
  | [d1, d2] => { results := [.lit (.bool true)], args := [d1, d2] }
  | _ => none }
def waitsRow : OpenClaim := { program := "ytipmkfghmebepaa", sum := "047ac2308699810a4040b20bdbef33a21ed42c2f4764585e039c7702eb6940ae", func := "tollgate/tollgatelaw.Waits", spec := "waits", apart := false }
def WaitsSaid : Prop := waitsRow.holds Try.pinned (OpenSpec.ofChange waitsSpec)

/-- ITS FALSE NEIGHBOUR: 'it returns false'. Refute it at one input. -/
def waitsWrong : ChangeSpec := { name := "waits", fn := fun _ => fun
  | [d1, d2] => { results := [.lit (.bool false)], args := [d1, d2] }
  | _ => none }
def WaitsWrongFalsely : Prop := waitsRow.holds Try.pinned (OpenSpec.ofChange waitsWrong)

/- THE SECOND FORM. 'bulk': how many values and letters a reading holds, each counted each time it is reached (what is shared counts as often as it is met; a slice's spare places count too). A statement '..UptoSaid' is the law's where the arguments, and the package variables that the reading takes, are together of bulk at most 1048576: NARROWER than '..Said'. Prove '..Said' where nothing that the law and all that it calls make is longer than what came in: it says more and counts as full. Else prove '..UptoSaid'. A law counts once. -/
mutual
def uptoBulk {H : Type} : DataW H → Nat
  | .lit (.string bytes) => bytes.length + 1
  | .lit _ => 1
  | .nil => 1
  | .ptr d => uptoBulk d + 1
  | .slice elems spare => uptoBulkAll elems + uptoBulkAll spare + 1
  | .agg parts => uptoBulkAll parts + 1
  | .iface _ d => uptoBulk d + 1
  | .map entries => uptoBulkEntries entries + 1
  | .held _ => 1
def uptoBulkAll {H : Type} : List (DataW H) → Nat
  | [] => 0
  | d :: r => uptoBulk d + uptoBulkAll r
def uptoBulkEntries {H : Type} : List (Lit × DataW H) → Nat
  | [] => 0
  | x :: r => uptoBulkEntry x + uptoBulkEntries r
def uptoBulkEntry {H : Type} : Lit × DataW H → Nat
  | (.string bytes, d) => bytes.length + uptoBulk d + 1
  | (_, d) => uptoBulk d + 1
 end
def uptoSmall : (H : Type) → List (DataW H) → Bool := fun _ ds => decide (uptoBulkAll ds ≤ 1048576)
def OpenSpec.upto (s : _root_.Go.ChangeSpec) : _root_.Go.OpenSpec := { _root_.Go.OpenSpec.ofChange s with cond := some uptoSmall }

/-- 'tollgatelaw.News', WHERE WHAT IT READS IS OF BULK AT MOST 1048576: true; the input reads as it did. -/
def newsUptoRow : OpenClaim := { program := "ytipmkfghmebepaa", sum := "047ac2308699810a4040b20bdbef33a21ed42c2f4764585e039c7702eb6940ae", func := "tollgate/tollgatelaw.News", spec := "news", apart := false, narrowed := true }
def NewsUptoSaid : Prop := newsUptoRow.holds Try.pinned (OpenSpec.upto newsSpec)

/-- 'tollgatelaw.Moves', WHERE WHAT IT READS IS OF BULK AT MOST 1048576: true; the input reads as it did. -/
def movesUptoRow : OpenClaim := { program := "ytipmkfghmebepaa", sum := "047ac2308699810a4040b20bdbef33a21ed42c2f4764585e039c7702eb6940ae", func := "tollgate/tollgatelaw.Moves", spec := "moves", apart := false, narrowed := true }
def MovesUptoSaid : Prop := movesUptoRow.holds Try.pinned (OpenSpec.upto movesSpec)

/-- 'tollgatelaw.Leases', WHERE WHAT IT READS IS OF BULK AT MOST 1048576: true; the input reads as it did. -/
def leasesUptoRow : OpenClaim := { program := "ytipmkfghmebepaa", sum := "047ac2308699810a4040b20bdbef33a21ed42c2f4764585e039c7702eb6940ae", func := "tollgate/tollgatelaw.Leases", spec := "leases", apart := false, narrowed := true }
def LeasesUptoSaid : Prop := leasesUptoRow.holds Try.pinned (OpenSpec.upto leasesSpec)

/-- 'tollgatelaw.Asks', WHERE WHAT IT READS IS OF BULK AT MOST 1048576: true; the input reads as it did. -/
def asksUptoRow : OpenClaim := { program := "ytipmkfghmebepaa", sum := "047ac2308699810a4040b20bdbef33a21ed42c2f4764585e039c7702eb6940ae", func := "tollgate/tollgatelaw.Asks", spec := "asks", apart := false, narrowed := true }
def AsksUptoSaid : Prop := asksUptoRow.holds Try.pinned (OpenSpec.upto asksSpec)

/-- 'tollgatelaw.Levels', WHERE WHAT IT READS IS OF BULK AT MOST 1048576: true; the input reads as it did. -/
def levelsUptoRow : OpenClaim := { program := "ytipmkfghmebepaa", sum := "047ac2308699810a4040b20bdbef33a21ed42c2f4764585e039c7702eb6940ae", func := "tollgate/tollgatelaw.Levels", spec := "levels", apart := false, narrowed := true }
def LevelsUptoSaid : Prop := levelsUptoRow.holds Try.pinned (OpenSpec.upto levelsSpec)

/-- 'tollgatelaw.Waits', WHERE WHAT IT READS IS OF BULK AT MOST 1048576: true; the input reads as it did. -/
def waitsUptoRow : OpenClaim := { program := "ytipmkfghmebepaa", sum := "047ac2308699810a4040b20bdbef33a21ed42c2f4764585e039c7702eb6940ae", func := "tollgate/tollgatelaw.Waits", spec := "waits", apart := false, narrowed := true }
def WaitsUptoSaid : Prop := waitsUptoRow.holds Try.pinned (OpenSpec.upto waitsSpec)

end Rows
end Go.Proofs.Ytipmkfghmebepaa
