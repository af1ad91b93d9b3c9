/-
  No cell of these rows narrows 'for every input' (looked for: loops, veiled, ifaces, maps, wideKeys, modest, calm, conditions, laid).
  DERIVED. THE GIVEN ROWS OF THIS SEAT. 5 by the template 'for every input the law returns true; each argument reads behind the call as it read before'; 0 by the template 'total and deterministic' (their statements: YteehphmedmplkaaTotals.lean).
  GIVEN WITH THE SEED: the statements are not yours to turn. If you find one false, say at which input.
  Laid BY PROGRAM, IN A SANDBOX (cutbox-rows.mjs): the forced cells as the released guide's own fill.sh prints them over the translation 8116865a4b9ab013… (all of the seat's roots in one cut). By AI agents, Wed Nov 11 2026. No macro, syntax, notation, axiom, sorry.
-/
import Derived.Test.YteehphmedmplkaaChecked
import GoSem.Claim
import GoSem.ClaimJoined
import GoSem.ClaimMapViews
import Derived.JoinedTies
import Derived.KernelRfl
namespace Go.Proofs.Yteehphmedmplkaa
/- THE CELL 'sum', in the pinned program and in every row, IS THE sha256 OF THE DUMP (.gsa) THAT YteehphmedmplkaaProg.lean LOADS. Nothing in Lean hashes anything: it is a label: what it is worth is what the hold of that sum in a sandbox is worth. -/
noncomputable def Try.pinned : Pinned := { name := "yteehphmedmplkaa", sum := "8116865a4b9ab013c6f4502d054057bb0f3c119adb10e8cf95231a91eb0eff35", checked := Try.checked }
namespace Rows
def none {H : Type} : Left H := { results := [], args := [] }

/-- 'oublaw3.TraceTells': WHATEVER THE INPUT: true; the input reads as it did. -/
def traceTellsSpec : ChangeSpec := { name := "traceTells", fn := fun _ => fun
  | [d1, d2, d3] => { results := [.lit (.bool true)], args := [d1, d2, d3] }
  | _ => none }
def traceTellsRow : OpenClaim := { program := "yteehphmedmplkaa", sum := "8116865a4b9ab013c6f4502d054057bb0f3c119adb10e8cf95231a91eb0eff35", func := "oubliette/oublaw3.TraceTells", spec := "traceTells", apart := false }
def TraceTellsSaid : Prop := traceTellsRow.holds Try.pinned (OpenSpec.ofChange traceTellsSpec)

/-- ITS FALSE NEIGHBOUR: 'it returns false'. Refute it at one input. -/
def traceTellsWrong : ChangeSpec := { name := "traceTells", fn := fun _ => fun
  | [d1, d2, d3] => { results := [.lit (.bool false)], args := [d1, d2, d3] }
  | _ => none }
def TraceTellsWrongFalsely : Prop := traceTellsRow.holds Try.pinned (OpenSpec.ofChange traceTellsWrong)

/-- 'oublaw3.TraceCompares': WHATEVER THE INPUT: true; the input reads as it did. -/
def traceComparesSpec : ChangeSpec := { name := "traceCompares", fn := fun _ => fun
  | [d1, d2, d3] => { results := [.lit (.bool true)], args := [d1, d2, d3] }
  | _ => none }
def traceComparesRow : OpenClaim := { program := "yteehphmedmplkaa", sum := "8116865a4b9ab013c6f4502d054057bb0f3c119adb10e8cf95231a91eb0eff35", func := "oubliette/oublaw3.TraceCompares", spec := "traceCompares", unfollowed := true, recurses := true, apart := false }
def TraceComparesSaid : Prop := traceComparesRow.holds Try.pinned (OpenSpec.ofChange traceComparesSpec)

/-- ITS FALSE NEIGHBOUR: 'it returns false'. Refute it at one input. -/
def traceComparesWrong : ChangeSpec := { name := "traceCompares", fn := fun _ => fun
  | [d1, d2, d3] => { results := [.lit (.bool false)], args := [d1, d2, d3] }
  | _ => none }
def TraceComparesWrongFalsely : Prop := traceComparesRow.holds Try.pinned (OpenSpec.ofChange traceComparesWrong)

/-- 'oublaw3.TraceAgain': WHATEVER THE INPUT: true; the input reads as it did. -/
def traceAgainSpec : ChangeSpec := { name := "traceAgain", fn := fun _ => fun
  | [d1, d2] => { results := [.lit (.bool true)], args := [d1, d2] }
  | _ => none }
def traceAgainRow : OpenClaim := { program := "yteehphmedmplkaa", sum := "8116865a4b9ab013c6f4502d054057bb0f3c119adb10e8cf95231a91eb0eff35", func := "oubliette/oublaw3.TraceAgain", spec := "traceAgain", unfollowed := true, recurses := true, apart := false }
def TraceAgainSaid : Prop := traceAgainRow.holds Try.pinned (OpenSpec.ofChange traceAgainSpec)

/-- ITS FALSE NEIGHBOUR: 'it returns false'. Refute it at one input. -/
def traceAgainWrong : ChangeSpec := { name := "traceAgain", fn := fun _ => fun
  | [d1, d2] => { results := [.lit (.bool false)], args := [d1, d2] }
  | _ => none }
def TraceAgainWrongFalsely : Prop := traceAgainRow.holds Try.pinned (OpenSpec.ofChange traceAgainWrong)

/-- 'oublaw3.TraceFails': WHATEVER THE INPUT: true; the input reads as it did. -/
def traceFailsSpec : ChangeSpec := { name := "traceFails", fn := fun _ => fun
  | [d] => { results := [.lit (.bool true)], args := [d] }
  | _ => none }
def traceFailsRow : OpenClaim := { program := "yteehphmedmplkaa", sum := "8116865a4b9ab013c6f4502d054057bb0f3c119adb10e8cf95231a91eb0eff35", func := "oubliette/oublaw3.TraceFails", spec := "traceFails", apart := false }
def TraceFailsSaid : Prop := traceFailsRow.holds Try.pinned (OpenSpec.ofChange traceFailsSpec)

/-- ITS FALSE NEIGHBOUR: 'it returns false'. Refute it at one input. -/
def traceFailsWrong : ChangeSpec := { name := "traceFails", fn := fun _ => fun
  | [d] => { results := [.lit (.bool false)], args := [d] }
  | _ => none }
def TraceFailsWrongFalsely : Prop := traceFailsRow.holds Try.pinned (OpenSpec.ofChange traceFailsWrong)

/-- 'oublaw3.TraceFronts': WHATEVER THE INPUT: true; the input reads as it did. -/
def traceFrontsSpec : ChangeSpec := { name := "traceFronts", fn := fun _ => fun
  | [d1, d2, d3] => { results := [.lit (.bool true)], args := [d1, d2, d3] }
  | _ => none }
def traceFrontsRow : OpenClaim := { program := "yteehphmedmplkaa", sum := "8116865a4b9ab013c6f4502d054057bb0f3c119adb10e8cf95231a91eb0eff35", func := "oubliette/oublaw3.TraceFronts", spec := "traceFronts", unfollowed := true, recurses := true, apart := false }
def TraceFrontsSaid : Prop := traceFrontsRow.holds Try.pinned (OpenSpec.ofChange traceFrontsSpec)

/-- ITS FALSE NEIGHBOUR: 'it returns false'. Refute it at one input. -/
def traceFrontsWrong : ChangeSpec := { name := "traceFronts", fn := fun _ => fun
  | [d1, d2, d3] => { results := [.lit (.bool false)], args := [d1, d2, d3] }
  | _ => none }
def TraceFrontsWrongFalsely : Prop := traceFrontsRow.holds Try.pinned (OpenSpec.ofChange traceFrontsWrong)

/- THE SECOND FORM. 'bulk': how many values and letters a reading holds, each counted each time it is reached (what is shared counts as often as it is met; a slice's spare places count too). A statement '..UptoSaid' is the law's where the arguments, and the package variables that the reading takes, are together of bulk at most 1048576: NARROWER than '..Said'. Prove '..Said' where nothing that the law and all that it calls make is longer than what came in: it says more and counts as full. Else prove '..UptoSaid'. A law counts once. -/
mutual
def uptoBulk {H : Type} : DataW H → Nat
  | .lit (.string bytes) => bytes.length + 1
  | .lit _ => 1
  | .nil => 1
  | .ptr d => uptoBulk d + 1
  | .slice elems spare => uptoBulkAll elems + uptoBulkAll spare + 1
  | .agg parts => uptoBulkAll parts + 1
  | .iface _ d => uptoBulk d + 1
  | .map entries => uptoBulkEntries entries + 1
  | .held _ => 1
def uptoBulkAll {H : Type} : List (DataW H) → Nat
  | [] => 0
  | d :: r => uptoBulk d + uptoBulkAll r
def uptoBulkEntries {H : Type} : List (Lit × DataW H) → Nat
  | [] => 0
  | x :: r => uptoBulkEntry x + uptoBulkEntries r
def uptoBulkEntry {H : Type} : Lit × DataW H → Nat
  | (.string bytes, d) => bytes.length + uptoBulk d + 1
  | (_, d) => uptoBulk d + 1
 end
def uptoSmall : (H : Type) → List (DataW H) → Bool := fun _ ds => decide (uptoBulkAll ds ≤ 1048576)
def OpenSpec.upto (s : _root_.Go.ChangeSpec) : _root_.Go.OpenSpec := { _root_.Go.OpenSpec.ofChange s with cond := some uptoSmall }

/-- 'oublaw3.TraceTells', WHERE WHAT IT READS IS OF BULK AT MOST 1048576: true; the input reads as it did. -/
def traceTellsUptoRow : OpenClaim := { program := "yteehphmedmplkaa", sum := "8116865a4b9ab013c6f4502d054057bb0f3c119adb10e8cf95231a91eb0eff35", func := "oubliette/oublaw3.TraceTells", spec := "traceTells", apart := false, narrowed := true }
def TraceTellsUptoSaid : Prop := traceTellsUptoRow.holds Try.pinned (OpenSpec.upto traceTellsSpec)

/-- 'oublaw3.TraceCompares', WHERE WHAT IT READS IS OF BULK AT MOST 1048576: true; the input reads as it did. -/
def traceComparesUptoRow : OpenClaim := { program := "yteehphmedmplkaa", sum := "8116865a4b9ab013c6f4502d054057bb0f3c119adb10e8cf95231a91eb0eff35", func := "oubliette/oublaw3.TraceCompares", spec := "traceCompares", unfollowed := true, recurses := true, apart := false, narrowed := true }
def TraceComparesUptoSaid : Prop := traceComparesUptoRow.holds Try.pinned (OpenSpec.upto traceComparesSpec)

/-- 'oublaw3.TraceAgain', WHERE WHAT IT READS IS OF BULK AT MOST 1048576: true; the input reads as it did. -/
def traceAgainUptoRow : OpenClaim := { program := "yteehphmedmplkaa", sum := "8116865a4b9ab013c6f4502d054057bb0f3c119adb10e8cf95231a91eb0eff35", func := "oubliette/oublaw3.TraceAgain", spec := "traceAgain", unfollowed := true, recurses := true, apart := false, narrowed := true }
def TraceAgainUptoSaid : Prop := traceAgainUptoRow.holds Try.pinned (OpenSpec.upto traceAgainSpec)

/-- 'oublaw3.TraceFails', WHERE WHAT IT READS IS OF BULK AT MOST 1048576: true; the input reads as it did. -/
def traceFailsUptoRow : OpenClaim := { program := "yteehphmedmplkaa", sum := "8116865a4b9ab013c6f4502d054057bb0f3c119adb10e8cf95231a91eb0eff35", func := "oubliette/oublaw3.TraceFails", spec := "traceFails", apart := false, narrowed := true }
def TraceFailsUptoSaid : Prop := traceFailsUptoRow.holds Try.pinned (OpenSpec.upto traceFailsSpec)

/-- 'oublaw3.TraceFronts', WHERE WHAT IT READS IS OF BULK AT MOST 1048576: true; the input reads as it did. -/
def traceFrontsUptoRow : OpenClaim := { program := "yteehphmedmplkaa", sum := "8116865a4b9ab013c6f4502d054057bb0f3c119adb10e8cf95231a91eb0eff35", func := "oubliette/oublaw3.TraceFronts", spec := "traceFronts", unfollowed := true, recurses := true, apart := false, narrowed := true }
def TraceFrontsUptoSaid : Prop := traceFrontsUptoRow.holds Try.pinned (OpenSpec.upto traceFrontsSpec)

end Rows
end Go.Proofs.Yteehphmedmplkaa
