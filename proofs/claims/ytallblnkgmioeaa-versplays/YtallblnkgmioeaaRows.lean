/-
  No cell of these rows narrows 'for every input' (looked for: loops, veiled, ifaces, maps, wideKeys, modest, calm, conditions, laid).
  DERIVED. THE GIVEN ROWS OF THIS SEAT. 5 by the template 'for every input the law returns true; each argument reads behind the call as it read before'; 0 by the template 'total and deterministic' (their statements: YtallblnkgmioeaaTotals.lean).
  GIVEN WITH THE SEED: the statements are not yours to turn. If you find one false, say at which input.
  Laid BY PROGRAM, IN A SANDBOX (cutbox-rows.mjs): the forced cells as the released guide's own fill.sh prints them over the translation 3f38e0179c4eb44b… (all of the seat's roots in one cut). By AI agents, Wed Nov 11 2026. No macro, syntax, notation, axiom, sorry.
-/
import Derived.Test.YtallblnkgmioeaaChecked
import GoSem.Claim
import GoSem.ClaimJoined
import GoSem.ClaimMapViews
import Derived.JoinedTies
import Derived.KernelRfl
namespace Go.Proofs.Ytallblnkgmioeaa
/- THE CELL 'sum', in the pinned program and in every row, IS THE sha256 OF THE DUMP (.gsa) THAT YtallblnkgmioeaaProg.lean LOADS. Nothing in Lean hashes anything: it is a label: what it is worth is what the hold of that sum in a sandbox is worth. -/
noncomputable def Try.pinned : Pinned := { name := "ytallblnkgmioeaa", sum := "3f38e0179c4eb44b51861c6105be2d4966bba598694a90dbca3431054d10a61a", checked := Try.checked }
namespace Rows
def none {H : Type} : Left H := { results := [], args := [] }

/-- 'oublaw12.VersPlays': WHATEVER THE INPUT: true; the input reads as it did. -/
def versPlaysSpec : ChangeSpec := { name := "versPlays", fn := fun _ => fun
  | [d1, d2] => { results := [.lit (.bool true)], args := [d1, d2] }
  | _ => none }
def versPlaysRow : OpenClaim := { program := "ytallblnkgmioeaa", sum := "3f38e0179c4eb44b51861c6105be2d4966bba598694a90dbca3431054d10a61a", func := "oubliette/oublaw12.VersPlays", spec := "versPlays", apart := false }
def VersPlaysSaid : Prop := versPlaysRow.holds Try.pinned (OpenSpec.ofChange versPlaysSpec)

/-- ITS FALSE NEIGHBOUR: 'it returns false'. Refute it at one input. -/
def versPlaysWrong : ChangeSpec := { name := "versPlays", fn := fun _ => fun
  | [d1, d2] => { results := [.lit (.bool false)], args := [d1, d2] }
  | _ => none }
def VersPlaysWrongFalsely : Prop := versPlaysRow.holds Try.pinned (OpenSpec.ofChange versPlaysWrong)

/-- 'oublaw12.VersReads': WHATEVER THE INPUT: true; the input reads as it did. -/
def versReadsSpec : ChangeSpec := { name := "versReads", fn := fun _ => fun
  | [d1, d2] => { results := [.lit (.bool true)], args := [d1, d2] }
  | _ => none }
def versReadsRow : OpenClaim := { program := "ytallblnkgmioeaa", sum := "3f38e0179c4eb44b51861c6105be2d4966bba598694a90dbca3431054d10a61a", func := "oubliette/oublaw12.VersReads", spec := "versReads", apart := false }
def VersReadsSaid : Prop := versReadsRow.holds Try.pinned (OpenSpec.ofChange versReadsSpec)

/-- ITS FALSE NEIGHBOUR: 'it returns false'. Refute it at one input. -/
def versReadsWrong : ChangeSpec := { name := "versReads", fn := fun _ => fun
  | [d1, d2] => { results := [.lit (.bool false)], args := [d1, d2] }
  | _ => none }
def VersReadsWrongFalsely : Prop := versReadsRow.holds Try.pinned (OpenSpec.ofChange versReadsWrong)

/-- 'oublaw12.VersTwice': WHATEVER THE INPUT: true; the input reads as it did. -/
def versTwiceSpec : ChangeSpec := { name := "versTwice", fn := fun _ => fun
  | [d1, d2, d3] => { results := [.lit (.bool true)], args := [d1, d2, d3] }
  | _ => none }
def versTwiceRow : OpenClaim := { program := "ytallblnkgmioeaa", sum := "3f38e0179c4eb44b51861c6105be2d4966bba598694a90dbca3431054d10a61a", func := "oubliette/oublaw12.VersTwice", spec := "versTwice", apart := false }
def VersTwiceSaid : Prop := versTwiceRow.holds Try.pinned (OpenSpec.ofChange versTwiceSpec)

/-- ITS FALSE NEIGHBOUR: 'it returns false'. Refute it at one input. -/
def versTwiceWrong : ChangeSpec := { name := "versTwice", fn := fun _ => fun
  | [d1, d2, d3] => { results := [.lit (.bool false)], args := [d1, d2, d3] }
  | _ => none }
def VersTwiceWrongFalsely : Prop := versTwiceRow.holds Try.pinned (OpenSpec.ofChange versTwiceWrong)

/-- 'oublaw12.VersOrder': WHATEVER THE INPUT: true; the input reads as it did. -/
def versOrderSpec : ChangeSpec := { name := "versOrder", fn := fun _ => fun
  | [d1, d2, d3] => { results := [.lit (.bool true)], args := [d1, d2, d3] }
  | _ => none }
def versOrderRow : OpenClaim := { program := "ytallblnkgmioeaa", sum := "3f38e0179c4eb44b51861c6105be2d4966bba598694a90dbca3431054d10a61a", func := "oubliette/oublaw12.VersOrder", spec := "versOrder", apart := false }
def VersOrderSaid : Prop := versOrderRow.holds Try.pinned (OpenSpec.ofChange versOrderSpec)

/-- ITS FALSE NEIGHBOUR: 'it returns false'. Refute it at one input. -/
def versOrderWrong : ChangeSpec := { name := "versOrder", fn := fun _ => fun
  | [d1, d2, d3] => { results := [.lit (.bool false)], args := [d1, d2, d3] }
  | _ => none }
def VersOrderWrongFalsely : Prop := versOrderRow.holds Try.pinned (OpenSpec.ofChange versOrderWrong)

/-- 'oublaw12.VersOwn': WHATEVER THE INPUT: true; the input reads as it did. -/
def versOwnSpec : ChangeSpec := { name := "versOwn", fn := fun _ => fun
  | [d1, d2] => { results := [.lit (.bool true)], args := [d1, d2] }
  | _ => none }
def versOwnRow : OpenClaim := { program := "ytallblnkgmioeaa", sum := "3f38e0179c4eb44b51861c6105be2d4966bba598694a90dbca3431054d10a61a", func := "oubliette/oublaw12.VersOwn", spec := "versOwn", apart := false }
def VersOwnSaid : Prop := versOwnRow.holds Try.pinned (OpenSpec.ofChange versOwnSpec)

/-- ITS FALSE NEIGHBOUR: 'it returns false'. Refute it at one input. -/
def versOwnWrong : ChangeSpec := { name := "versOwn", fn := fun _ => fun
  | [d1, d2] => { results := [.lit (.bool false)], args := [d1, d2] }
  | _ => none }
def VersOwnWrongFalsely : Prop := versOwnRow.holds Try.pinned (OpenSpec.ofChange versOwnWrong)

/- THE SECOND FORM. 'bulk': how many values and letters a reading holds, each counted each time it is reached (what is shared counts as often as it is met; a slice's spare places count too). A statement '..UptoSaid' is the law's where the arguments, and the package variables that the reading takes, are together of bulk at most 1048576: NARROWER than '..Said'. Prove '..Said' where nothing that the law and all that it calls make is longer than what came in: it says more and counts as full. Else prove '..UptoSaid'. A law counts once. -/
mutual
def uptoBulk {H : Type} : DataW H → Nat
  | .lit (.string bytes) => bytes.length + 1
  | .lit _ => 1
  | .nil => 1
  | .ptr d => uptoBulk d + 1
  | .slice elems spare => uptoBulkAll elems + uptoBulkAll spare + 1
  | .agg parts => uptoBulkAll parts + 1
  | .iface _ d => uptoBulk d + 1
  | .map entries => uptoBulkEntries entries + 1
  | .held _ => 1
def uptoBulkAll {H : Type} : List (DataW H) → Nat
  | [] => 0
  | d :: r => uptoBulk d + uptoBulkAll r
def uptoBulkEntries {H : Type} : List (Lit × DataW H) → Nat
  | [] => 0
  | x :: r => uptoBulkEntry x + uptoBulkEntries r
def uptoBulkEntry {H : Type} : Lit × DataW H → Nat
  | (.string bytes, d) => bytes.length + uptoBulk d + 1
  | (_, d) => uptoBulk d + 1
 end
def uptoSmall : (H : Type) → List (DataW H) → Bool := fun _ ds => decide (uptoBulkAll ds ≤ 1048576)
def OpenSpec.upto (s : _root_.Go.ChangeSpec) : _root_.Go.OpenSpec := { _root_.Go.OpenSpec.ofChange s with cond := some uptoSmall }

/-- 'oublaw12.VersPlays', WHERE WHAT IT READS IS OF BULK AT MOST 1048576: true; the input reads as it did. -/
def versPlaysUptoRow : OpenClaim := { program := "ytallblnkgmioeaa", sum := "3f38e0179c4eb44b51861c6105be2d4966bba598694a90dbca3431054d10a61a", func := "oubliette/oublaw12.VersPlays", spec := "versPlays", apart := false, narrowed := true }
def VersPlaysUptoSaid : Prop := versPlaysUptoRow.holds Try.pinned (OpenSpec.upto versPlaysSpec)

/-- 'oublaw12.VersReads', WHERE WHAT IT READS IS OF BULK AT MOST 1048576: true; the input reads as it did. -/
def versReadsUptoRow : OpenClaim := { program := "ytallblnkgmioeaa", sum := "3f38e0179c4eb44b51861c6105be2d4966bba598694a90dbca3431054d10a61a", func := "oubliette/oublaw12.VersReads", spec := "versReads", apart := false, narrowed := true }
def VersReadsUptoSaid : Prop := versReadsUptoRow.holds Try.pinned (OpenSpec.upto versReadsSpec)

/-- 'oublaw12.VersTwice', WHERE WHAT IT READS IS OF BULK AT MOST 1048576: true; the input reads as it did. -/
def versTwiceUptoRow : OpenClaim := { program := "ytallblnkgmioeaa", sum := "3f38e0179c4eb44b51861c6105be2d4966bba598694a90dbca3431054d10a61a", func := "oubliette/oublaw12.VersTwice", spec := "versTwice", apart := false, narrowed := true }
def VersTwiceUptoSaid : Prop := versTwiceUptoRow.holds Try.pinned (OpenSpec.upto versTwiceSpec)

/-- 'oublaw12.VersOrder', WHERE WHAT IT READS IS OF BULK AT MOST 1048576: true; the input reads as it did. -/
def versOrderUptoRow : OpenClaim := { program := "ytallblnkgmioeaa", sum := "3f38e0179c4eb44b51861c6105be2d4966bba598694a90dbca3431054d10a61a", func := "oubliette/oublaw12.VersOrder", spec := "versOrder", apart := false, narrowed := true }
def VersOrderUptoSaid : Prop := versOrderUptoRow.holds Try.pinned (OpenSpec.upto versOrderSpec)

/-- 'oublaw12.VersOwn', WHERE WHAT IT READS IS OF BULK AT MOST 1048576: true; the input reads as it did. -/
def versOwnUptoRow : OpenClaim := { program := "ytallblnkgmioeaa", sum := "3f38e0179c4eb44b51861c6105be2d4966bba598694a90dbca3431054d10a61a", func := "oubliette/oublaw12.VersOwn", spec := "versOwn", apart := false, narrowed := true }
def VersOwnUptoSaid : Prop := versOwnUptoRow.holds Try.pinned (OpenSpec.upto versOwnSpec)

end Rows
end Go.Proofs.Ytallblnkgmioeaa
