/-
  No cell of these rows narrows 'for every input' (looked for: loops, veiled, ifaces, maps, wideKeys, modest, calm, conditions, laid).
  DERIVED. THE GIVEN ROWS OF THIS SEAT. 11 by the template 'for every input the law returns true; each argument reads behind the call as it read before'; 0 by the template 'total and deterministic' (their statements: YtilffakkmjdmnaaTotals.lean).
  GIVEN WITH THE SEED: the statements are not yours to turn. If you find one false, say at which input.
  Laid BY PROGRAM, IN A SANDBOX (cutbox-rows.mjs): the forced cells as the released guide's own fill.sh prints them over the translation 929c6413ada9cfad… (all of the seat's roots in one cut). By AI agents, Wed Nov 11 2026. No macro, syntax, notation, axiom, sorry.
-/
import Derived.Test.YtilffakkmjdmnaaChecked
import GoSem.Claim
import GoSem.ClaimJoined
import GoSem.ClaimMapViews
import Derived.JoinedTies
import Derived.KernelRfl
namespace Go.Proofs.Ytilffakkmjdmnaa
/- THE CELL 'sum', in the pinned program and in every row, IS THE sha256 OF THE DUMP (.gsa) THAT YtilffakkmjdmnaaProg.lean LOADS. Nothing in Lean hashes anything: it is a label: what it is worth is what the hold of that sum in a sandbox is worth. -/
noncomputable def Try.pinned : Pinned := { name := "ytilffakkmjdmnaa", sum := "929c6413ada9cfad2325ef147c48e4e772894da7fb44af1cb9e38e0b6f35f4a2", checked := Try.checked }
namespace Rows
def none {H : Type} : Left H := { results := [], args := [] }

/-- 'tollgatelaw.News': WHATEVER THE INPUT: true; the input reads as it did. -/
def newsSpec : ChangeSpec := { name := "news", fn := fun _ => fun
  | [d] => { results := [.lit (.bool true)], args := [d] }
  | _ => none }
def newsRow : OpenClaim := { program := "ytilffakkmjdmnaa", sum := "929c6413ada9cfad2325ef147c48e4e772894da7fb44af1cb9e38e0b6f35f4a2", func := "tollgate/tollgatelaw.News", spec := "news", apart := false }
def NewsSaid : Prop := newsRow.holds Try.pinned (OpenSpec.ofChange newsSpec)

/-- ITS FALSE NEIGHBOUR: 'it returns false'. Refute it at one input. -/
def newsWrong : ChangeSpec := { name := "news", fn := fun _ => fun
  | [d] => { results := [.lit (.bool false)], args := [d] }
  | _ => none }
def NewsWrongFalsely : Prop := newsRow.holds Try.pinned (OpenSpec.ofChange newsWrong)

/-- 'tollgatelaw.Moves': WHATEVER THE INPUT: true; the input reads as it did. -/
def movesSpec : ChangeSpec := { name := "moves", fn := fun _ => fun
  | [d1, d2] => { results := [.lit (.bool true)], args := [d1, d2] }
  | _ => none }
def movesRow : OpenClaim := { program := "ytilffakkmjdmnaa", sum := "929c6413ada9cfad2325ef147c48e4e772894da7fb44af1cb9e38e0b6f35f4a2", func := "tollgate/tollgatelaw.Moves", spec := "moves", apart := false }
def MovesSaid : Prop := movesRow.holds Try.pinned (OpenSpec.ofChange movesSpec)

/-- ITS FALSE NEIGHBOUR: 'it returns false'. Refute it at one input. -/
def movesWrong : ChangeSpec := { name := "moves", fn := fun _ => fun
  | [d1, d2] => { results := [.lit (.bool false)], args := [d1, d2] }
  | _ => none }
def MovesWrongFalsely : Prop := movesRow.holds Try.pinned (OpenSpec.ofChange movesWrong)

/-- 'tollgatelaw.Leases': WHATEVER THE INPUT: true; the input reads as it did. -/
def leasesSpec : ChangeSpec := { name := "leases", fn := fun _ => fun
  | [d1, d2] => { results := [.lit (.bool true)], args := [d1, d2] }
  | _ => none }
def leasesRow : OpenClaim := { program := "ytilffakkmjdmnaa", sum := "929c6413ada9cfad2325ef147c48e4e772894da7fb44af1cb9e38e0b6f35f4a2", func := "tollgate/tollgatelaw.Leases", spec := "leases", apart := false }
def LeasesSaid : Prop := leasesRow.holds Try.pinned (OpenSpec.ofChange leasesSpec)

/-- ITS FALSE NEIGHBOUR: 'it returns false'. Refute it at one input. -/
def leasesWrong : ChangeSpec := { name := "leases", fn := fun _ => fun
  | [d1, d2] => { results := [.lit (.bool false)], args := [d1, d2] }
  | _ => none }
def LeasesWrongFalsely : Prop := leasesRow.holds Try.pinned (OpenSpec.ofChange leasesWrong)

/-- 'tollgatelaw.Asks': WHATEVER THE INPUT: true; the input reads as it did. -/
def asksSpec : ChangeSpec := { name := "asks", fn := fun _ => fun
  | [d1, d2] => { results := [.lit (.bool true)], args := [d1, d2] }
  | _ => none }
def asksRow : OpenClaim := { program := "ytilffakkmjdmnaa", sum := "929c6413ada9cfad2325ef147c48e4e772894da7fb44af1cb9e38e0b6f35f4a2", func := "tollgate/tollgatelaw.Asks", spec := "asks", apart := false }
def AsksSaid : Prop := asksRow.holds Try.pinned (OpenSpec.ofChange asksSpec)

/-- ITS FALSE NEIGHBOUR: 'it returns false'. Refute it at one input. -/
def asksWrong : ChangeSpec := { name := "asks", fn := fun _ => fun
  | [d1, d2] => { results := [.lit (.bool false)], args := [d1, d2] }
  | _ => none }
def AsksWrongFalsely : Prop := asksRow.holds Try.pinned (OpenSpec.ofChange asksWrong)

/-- 'tollgatelaw.Levels': WHATEVER THE INPUT: true; the input reads as it did. -/
def levelsSpec : ChangeSpec := { name := "levels", fn := fun _ => fun
  | [d1, d2] => { results := [.lit (.bool true)], args := [d1, d2] }
  | _ => none }
def levelsRow : OpenClaim := { program := "ytilffakkmjdmnaa", sum := "929c6413ada9cfad2325ef147c48e4e772894da7fb44af1cb9e38e0b6f35f4a2", func := "tollgate/tollgatelaw.Levels", spec := "levels", apart := false }
def LevelsSaid : Prop := levelsRow.holds Try.pinned (OpenSpec.ofChange levelsSpec)

/-- ITS FALSE NEIGHBOUR: 'it returns false'. Refute it at one input. -/
def levelsWrong : ChangeSpec := { name := "levels", fn := fun _ => fun
  | [d1, d2] => { results := [.lit (.bool false)], args := [d1, d2] }
  | _ => none }
def LevelsWrongFalsely : Prop := levelsRow.holds Try.pinned (OpenSpec.ofChange levelsWrong)

/-- 'tollgatelaw.Joins': WHATEVER THE INPUT: true; the input reads as it did. -/
def joinsSpec : ChangeSpec := { name := "joins", fn := fun _ => fun
  | [d1, d2] => { results := [.lit (.bool true)], args := [d1, d2] }
  | _ => none }
def joinsRow : OpenClaim := { program := "ytilffakkmjdmnaa", sum := "929c6413ada9cfad2325ef147c48e4e772894da7fb44af1cb9e38e0b6f35f4a2", func := "tollgate/tollgatelaw.Joins", spec := "joins", apart := false }
def JoinsSaid : Prop := joinsRow.holds Try.pinned (OpenSpec.ofChange joinsSpec)

/-- ITS FALSE NEIGHBOUR: 'it returns false'. Refute it at one input. -/
def joinsWrong : ChangeSpec := { name := "joins", fn := fun _ => fun
  | [d1, d2] => { results := [.lit (.bool false)], args := [d1, d2] }
  | _ => none }
def JoinsWrongFalsely : Prop := joinsRow.holds Try.pinned (OpenSpec.ofChange joinsWrong)

/-- 'tollgatelaw.Waits': WHATEVER THE INPUT: true; the input reads as it did. -/
def waitsSpec : ChangeSpec := { name := "waits", fn := fun _ => fun
  | [d1, d2] => { results := [.lit (.bool true)], args := [d1, d2] }
  | _ => none }
def waitsRow : OpenClaim := { program := "ytilffakkmjdmnaa", sum := "929c6413ada9cfad2325ef147c48e4e772894da7fb44af1cb9e38e0b6f35f4a2", func := "tollgate/tollgatelaw.Waits", spec := "waits", apart := false }
def WaitsSaid : Prop := waitsRow.holds Try.pinned (OpenSpec.ofChange waitsSpec)

/-- ITS FALSE NEIGHBOUR: 'it returns false'. Refute it at one input. -/
def waitsWrong : ChangeSpec := { name := "waits", fn := fun _ => fun
  | [d1, d2] => { results := [.lit (.bool false)], args := [d1, d2] }
  | _ => none }
def WaitsWrongFalsely : Prop := waitsRow.holds Try.pinned (OpenSpec.ofChange waitsWrong)

/-- 'tollgatekeep.Bound': WHATEVER THE INPUT: true; the input reads as it did. -/
def boundSpec : ChangeSpec := { name := "bound", fn := fun _ => fun
  | [d1, d2] => { results := [.lit (.bool true)], args := [d1, d2] }
  | _ => none }
def boundRow : OpenClaim := { program := "ytilffakkmjdmnaa", sum := "929c6413ada9cfad2325ef147c48e4e772894da7fb44af1cb9e38e0b6f35f4a2", func := "tollgate/tollgatekeep.Bound", spec := "bound", apart := false }
def BoundSaid : Prop := boundRow.holds Try.pinned (OpenSpec.ofChange boundSpec)

/-- ITS FALSE NEIGHBOUR: 'it returns false'. Refute it at one input. -/
def boundWrong : ChangeSpec := { name := "bound", fn := fun _ => fun
  | [d1, d2] => { results := [.lit (.bool false)], args := [d1, d2] }
  | _ => none }
def BoundWrongFalsely : Prop := boundRow.holds Try.pinned (OpenSpec.ofChange boundWrong)

/-- 'tollgatekeep.OneGate': WHATEVER THE INPUT: true; the input reads as it did. -/
def oneGateSpec : ChangeSpec := { name := "oneGate", fn := fun _ => fun
  | [d1, d2] => { results := [.lit (.bool true)], args := [d1, d2] }
  | _ => none }
def oneGateRow : OpenClaim := { program := "ytilffakkmjdmnaa", sum := "929c6413ada9cfad2325ef147c48e4e772894da7fb44af1cb9e38e0b6f35f4a2", func := "tollgate/tollgatekeep.OneGate", spec := "oneGate", apart := false }
def OneGateSaid : Prop := oneGateRow.holds Try.pinned (OpenSpec.ofChange oneGateSpec)

/-- ITS FALSE NEIGHBOUR: 'it returns false'. Refute it at one input. -/
def oneGateWrong : ChangeSpec := { name := "oneGate", fn := fun _ => fun
  | [d1, d2] => { results := [.lit (.bool false)], args := [d1, d2] }
  | _ => none }
def OneGateWrongFalsely : Prop := oneGateRow.holds Try.pinned (OpenSpec.ofChange oneGateWrong)

/-- 'tollgatekeep.Ideal': WHATEVER THE INPUT: true; the input reads as it did. -/
def idealSpec : ChangeSpec := { name := "ideal", fn := fun _ => fun
  | [d1, d2, d3] => { results := [.lit (.bool true)], args := [d1, d2, d3] }
  | _ => none }
def idealRow : OpenClaim := { program := "ytilffakkmjdmnaa", sum := "929c6413ada9cfad2325ef147c48e4e772894da7fb44af1cb9e38e0b6f35f4a2", func := "tollgate/tollgatekeep.Ideal", spec := "ideal", apart := false }
def IdealSaid : Prop := idealRow.holds Try.pinned (OpenSpec.ofChange idealSpec)

/-- ITS FALSE NEIGHBOUR: 'it returns false'. Refute it at one input. -/
def idealWrong : ChangeSpec := { name := "ideal", fn := fun _ => fun
  | [d1, d2, d3] => { results := [.lit (.bool false)], args := [d1, d2, d3] }
  | _ => none }
def IdealWrongFalsely : Prop := idealRow.holds Try.pinned (OpenSpec.ofChange idealWrong)

/-- 'tollgatekeep.Mirrored': WHATEVER THE INPUT: true; the input reads as it did. -/
def mirroredSpec : ChangeSpec := { name := "mirrored", fn := fun _ => fun
  | [d1, d2] => { results := [.lit (.bool true)], args := [d1, d2] }
  | _ => none }
def mirroredRow : OpenClaim := { program := "ytilffakkmjdmnaa", sum := "929c6413ada9cfad2325ef147c48e4e772894da7fb44af1cb9e38e0b6f35f4a2", func := "tollgate/tollgatekeep.Mirrored", spec := "mirrored", apart := false }
def MirroredSaid : Prop := mirroredRow.holds Try.pinned (OpenSpec.ofChange mirroredSpec)

/-- ITS FALSE NEIGHBOUR: 'it returns false'. Refute it at one input. -/
def mirroredWrong : ChangeSpec := { name := "mirrored", fn := fun _ => fun
  | [d1, d2] => { results := [.lit (.bool false)], args := [d1, d2] }
  | _ => none }
def MirroredWrongFalsely : Prop := mirroredRow.holds Try.pinned (OpenSpec.ofChange mirroredWrong)

/- THE SECOND FORM. 'bulk': how many values and letters a reading holds, each counted each time it is reached (what is shared counts as often as it is met; a slice's spare places count too). A statement '..UptoSaid' is the law's where the arguments, and the package variables that the reading takes, are together of bulk at most 1048576: NARROWER than '..Said'. Prove '..Said' where nothing that the law and all that it calls make is longer than what came in: it says more and counts as full. Else prove '..UptoSaid'. A law counts once. -/
mutual
def uptoBulk {H : Type} : DataW H → Nat
  | .lit (.string bytes) => bytes.length + 1
  | .lit _ => 1
  | .nil => 1
  | .ptr d => uptoBulk d + 1
  | .slice elems spare => uptoBulkAll elems + uptoBulkAll spare + 1
  | .agg parts => uptoBulkAll parts + 1
  | .iface _ d => uptoBulk d + 1
  | .map entries => uptoBulkEntries entries + 1
  | .held _ => 1
def uptoBulkAll {H : Type} : List (DataW H) → Nat
  | [] => 0
  | d :: r => uptoBulk d + uptoBulkAll r
def uptoBulkEntries {H : Type} : List (Lit × DataW H) → Nat
  | [] => 0
  | x :: r => uptoBulkEntry x + uptoBulkEntries r
def uptoBulkEntry {H : Type} : Lit × DataW H → Nat
  | (.string bytes, d) => bytes.length + uptoBulk d + 1
  | (_, d) => uptoBulk d + 1
 end
def uptoSmall : (H : Type) → List (DataW H) → Bool := fun _ ds => decide (uptoBulkAll ds ≤ 1048576)
def OpenSpec.upto (s : _root_.Go.ChangeSpec) : _root_.Go.OpenSpec := { _root_.Go.OpenSpec.ofChange s with cond := some uptoSmall }

/-- 'tollgatelaw.News', WHERE WHAT IT READS IS OF BULK AT MOST 1048576: true; the input reads as it did. -/
def newsUptoRow : OpenClaim := { program := "ytilffakkmjdmnaa", sum := "929c6413ada9cfad2325ef147c48e4e772894da7fb44af1cb9e38e0b6f35f4a2", func := "tollgate/tollgatelaw.News", spec := "news", apart := false, narrowed := true }
def NewsUptoSaid : Prop := newsUptoRow.holds Try.pinned (OpenSpec.upto newsSpec)

/-- 'tollgatelaw.Moves', WHERE WHAT IT READS IS OF BULK AT MOST 1048576: true; the input reads as it did. -/
def movesUptoRow : OpenClaim := { program := "ytilffakkmjdmnaa", sum := "929c6413ada9cfad2325ef147c48e4e772894da7fb44af1cb9e38e0b6f35f4a2", func := "tollgate/tollgatelaw.Moves", spec := "moves", apart := false, narrowed := true }
def MovesUptoSaid : Prop := movesUptoRow.holds Try.pinned (OpenSpec.upto movesSpec)

/-- 'tollgatelaw.Leases', WHERE WHAT IT READS IS OF BULK AT MOST 1048576: true; the input reads as it did. -/
def leasesUptoRow : OpenClaim := { program := "ytilffakkmjdmnaa", sum := "929c6413ada9cfad2325ef147c48e4e772894da7fb44af1cb9e38e0b6f35f4a2", func := "tollgate/tollgatelaw.Leases", spec := "leases", apart := false, narrowed := true }
def LeasesUptoSaid : Prop := leasesUptoRow.holds Try.pinned (OpenSpec.upto leasesSpec)

/-- 'tollgatelaw.Asks', WHERE WHAT IT READS IS OF BULK AT MOST 1048576: true; the input reads as it did. -/
def asksUptoRow : OpenClaim := { program := "ytilffakkmjdmnaa", sum := "929c6413ada9cfad2325ef147c48e4e772894da7fb44af1cb9e38e0b6f35f4a2", func := "tollgate/tollgatelaw.Asks", spec := "asks", apart := false, narrowed := true }
def AsksUptoSaid : Prop := asksUptoRow.holds Try.pinned (OpenSpec.upto asksSpec)

/-- 'tollgatelaw.Levels', WHERE WHAT IT READS IS OF BULK AT MOST 1048576: true; the input reads as it did. -/
def levelsUptoRow : OpenClaim := { program := "ytilffakkmjdmnaa", sum := "929c6413ada9cfad2325ef147c48e4e772894da7fb44af1cb9e38e0b6f35f4a2", func := "tollgate/tollgatelaw.Levels", spec := "levels", apart := false, narrowed := true }
def LevelsUptoSaid : Prop := levelsUptoRow.holds Try.pinned (OpenSpec.upto levelsSpec)

/-- 'tollgatelaw.Joins', WHERE WHAT IT READS IS OF BULK AT MOST 1048576: true; the input reads as it did. -/
def joinsUptoRow : OpenClaim := { program := "ytilffakkmjdmnaa", sum := "929c6413ada9cfad2325ef147c48e4e772894da7fb44af1cb9e38e0b6f35f4a2", func := "tollgate/tollgatelaw.Joins", spec := "joins", apart := false, narrowed := true }
def JoinsUptoSaid : Prop := joinsUptoRow.holds Try.pinned (OpenSpec.upto joinsSpec)

/-- 'tollgatelaw.Waits', WHERE WHAT IT READS IS OF BULK AT MOST 1048576: true; the input reads as it did. -/
def waitsUptoRow : OpenClaim := { program := "ytilffakkmjdmnaa", sum := "929c6413ada9cfad2325ef147c48e4e772894da7fb44af1cb9e38e0b6f35f4a2", func := "tollgate/tollgatelaw.Waits", spec := "waits", apart := false, narrowed := true }
def WaitsUptoSaid : Prop := waitsUptoRow.holds Try.pinned (OpenSpec.upto waitsSpec)

/-- 'tollgatekeep.Bound', WHERE WHAT IT READS IS OF BULK AT MOST 1048576: true; the input reads as it did. -/
def boundUptoRow : OpenClaim := { program := "ytilffakkmjdmnaa", sum := "929c6413ada9cfad2325ef147c48e4e772894da7fb44af1cb9e38e0b6f35f4a2", func := "tollgate/tollgatekeep.Bound", spec := "bound", apart := false, narrowed := true }
def BoundUptoSaid : Prop := boundUptoRow.holds Try.pinned (OpenSpec.upto boundSpec)

/-- 'tollgatekeep.OneGate', WHERE WHAT IT READS IS OF BULK AT MOST 1048576: true; the input reads as it did. -/
def oneGateUptoRow : OpenClaim := { program := "ytilffakkmjdmnaa", sum := "929c6413ada9cfad2325ef147c48e4e772894da7fb44af1cb9e38e0b6f35f4a2", func := "tollgate/tollgatekeep.OneGate", spec := "oneGate", apart := false, narrowed := true }
def OneGateUptoSaid : Prop := oneGateUptoRow.holds Try.pinned (OpenSpec.upto oneGateSpec)

/-- 'tollgatekeep.Ideal', WHERE WHAT IT READS IS OF BULK AT MOST 1048576: true; the input reads as it did. -/
def idealUptoRow : OpenClaim := { program := "ytilffakkmjdmnaa", sum := "929c6413ada9cfad2325ef147c48e4e772894da7fb44af1cb9e38e0b6f35f4a2", func := "tollgate/tollgatekeep.Ideal", spec := "ideal", apart := false, narrowed := true }
def IdealUptoSaid : Prop := idealUptoRow.holds Try.pinned (OpenSpec.upto idealSpec)

/-- 'tollgatekeep.Mirrored', WHERE WHAT IT READS IS OF BULK AT MOST 1048576: true; the input reads as it did. -/
def mirroredUptoRow : OpenClaim := { program := "ytilffakkmjdmnaa", sum := "929c6413ada9cfad2325ef147c48e4e772894da7fb44af1cb9e38e0b6f35f4a2", func := "tollgate/tollgatekeep.Mirrored", spec := "mirrored", apart := false, narrowed := true }
def MirroredUptoSaid : Prop := mirroredUptoRow.holds Try.pinned (OpenSpec.upto mirroredSpec)

end Rows
end Go.Proofs.Ytilffakkmjdmnaa
