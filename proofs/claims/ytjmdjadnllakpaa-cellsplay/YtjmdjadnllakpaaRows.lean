/-
  No cell of these rows narrows 'for every input' (looked for: loops, veiled, ifaces, maps, wideKeys, modest, calm, conditions, laid).
  DERIVED. THE GIVEN ROWS OF THIS SEAT. 5 by the template 'for every input the law returns true; each argument reads behind the call as it read before'; 0 by the template 'total and deterministic' (their statements: YtjmdjadnllakpaaTotals.lean).
  GIVEN WITH THE SEED: the statements are not yours to turn. If you find one false, say at which input.
  Laid BY PROGRAM, IN A SANDBOX (cutbox-rows.mjs): the forced cells as the released guide's own fill.sh prints them over the translation 6f4a124e532405c5… (all of the seat's roots in one cut). By AI agents, Wed Nov 11 2026. No macro, syntax, notation, axiom, sorry.
-/
import Derived.Test.YtjmdjadnllakpaaChecked
import GoSem.Claim
import GoSem.ClaimJoined
import GoSem.ClaimMapViews
import Derived.JoinedTies
import Derived.KernelRfl
namespace Go.Proofs.Ytjmdjadnllakpaa
/- THE CELL 'sum', in the pinned program and in every row, IS THE sha256 OF THE DUMP (.gsa) THAT YtjmdjadnllakpaaProg.lean LOADS. Nothing in Lean hashes anything: it is a label: what it is worth is what the hold of that sum in a sandbox is worth. -/
noncomputable def Try.pinned : Pinned := { name := "ytjmdjadnllakpaa", sum := "6f4a124e532405c50ef8443b09afacfaea4dcf60353abcaf0a0d1be0e7722113", checked := Try.checked }
namespace Rows
def none {H : Type} : Left H := { results := [], args := [] }

/-- 'oublaw2.CellsPlay': WHATEVER THE INPUT: true; the input reads as it did. -/
def cellsPlaySpec : ChangeSpec := { name := "cellsPlay", fn := fun _ => fun
  | [d1, d2, d3] => { results := [.lit (.bool true)], args := [d1, d2, d3] }
  | _ => none }
def cellsPlayRow : OpenClaim := { program := "ytjmdjadnllakpaa", sum := "6f4a124e532405c50ef8443b09afacfaea4dcf60353abcaf0a0d1be0e7722113", func := "oubliette/oublaw2.CellsPlay", spec := "cellsPlay", apart := false }
def CellsPlaySaid : Prop := cellsPlayRow.holds Try.pinned (OpenSpec.ofChange cellsPlaySpec)

/-- ITS FALSE NEIGHBOUR: 'it returns false'. Refute it at one input. -/
def cellsPlayWrong : ChangeSpec := { name := "cellsPlay", fn := fun _ => fun
  | [d1, d2, d3] => { results := [.lit (.bool false)], args := [d1, d2, d3] }
  | _ => none }
def CellsPlayWrongFalsely : Prop := cellsPlayRow.holds Try.pinned (OpenSpec.ofChange cellsPlayWrong)

/-- 'oublaw2.CellsSure': WHATEVER THE INPUT: true; the input reads as it did. -/
def cellsSureSpec : ChangeSpec := { name := "cellsSure", fn := fun _ => fun
  | [d1, d2, d3, d4] => { results := [.lit (.bool true)], args := [d1, d2, d3, d4] }
  | _ => none }
def cellsSureRow : OpenClaim := { program := "ytjmdjadnllakpaa", sum := "6f4a124e532405c50ef8443b09afacfaea4dcf60353abcaf0a0d1be0e7722113", func := "oubliette/oublaw2.CellsSure", spec := "cellsSure", apart := false }
def CellsSureSaid : Prop := cellsSureRow.holds Try.pinned (OpenSpec.ofChange cellsSureSpec)

/-- ITS FALSE NEIGHBOUR: 'it returns false'. Refute it at one input. -/
def cellsSureWrong : ChangeSpec := { name := "cellsSure", fn := fun _ => fun
  | [d1, d2, d3, d4] => { results := [.lit (.bool false)], args := [d1, d2, d3, d4] }
  | _ => none }
def CellsSureWrongFalsely : Prop := cellsSureRow.holds Try.pinned (OpenSpec.ofChange cellsSureWrong)

/-- 'oublaw2.CellsArmed': WHATEVER THE INPUT: true; the input reads as it did. -/
def cellsArmedSpec : ChangeSpec := { name := "cellsArmed", fn := fun _ => fun
  | [d1, d2] => { results := [.lit (.bool true)], args := [d1, d2] }
  | _ => none }
def cellsArmedRow : OpenClaim := { program := "ytjmdjadnllakpaa", sum := "6f4a124e532405c50ef8443b09afacfaea4dcf60353abcaf0a0d1be0e7722113", func := "oubliette/oublaw2.CellsArmed", spec := "cellsArmed", apart := false }
def CellsArmedSaid : Prop := cellsArmedRow.holds Try.pinned (OpenSpec.ofChange cellsArmedSpec)

/-- ITS FALSE NEIGHBOUR: 'it returns false'. Refute it at one input. -/
def cellsArmedWrong : ChangeSpec := { name := "cellsArmed", fn := fun _ => fun
  | [d1, d2] => { results := [.lit (.bool false)], args := [d1, d2] }
  | _ => none }
def CellsArmedWrongFalsely : Prop := cellsArmedRow.holds Try.pinned (OpenSpec.ofChange cellsArmedWrong)

/-- 'oublaw2.CellsOwn': WHATEVER THE INPUT: true; the input reads as it did. -/
def cellsOwnSpec : ChangeSpec := { name := "cellsOwn", fn := fun _ => fun
  | [d] => { results := [.lit (.bool true)], args := [d] }
  | _ => none }
def cellsOwnRow : OpenClaim := { program := "ytjmdjadnllakpaa", sum := "6f4a124e532405c50ef8443b09afacfaea4dcf60353abcaf0a0d1be0e7722113", func := "oubliette/oublaw2.CellsOwn", spec := "cellsOwn", apart := false }
def CellsOwnSaid : Prop := cellsOwnRow.holds Try.pinned (OpenSpec.ofChange cellsOwnSpec)

/-- ITS FALSE NEIGHBOUR: 'it returns false'. Refute it at one input. -/
def cellsOwnWrong : ChangeSpec := { name := "cellsOwn", fn := fun _ => fun
  | [d] => { results := [.lit (.bool false)], args := [d] }
  | _ => none }
def CellsOwnWrongFalsely : Prop := cellsOwnRow.holds Try.pinned (OpenSpec.ofChange cellsOwnWrong)

/-- 'oublaw2.CellsLast': WHATEVER THE INPUT: true; the input reads as it did. -/
def cellsLastSpec : ChangeSpec := { name := "cellsLast", fn := fun _ => fun
  | [d1, d2] => { results := [.lit (.bool true)], args := [d1, d2] }
  | _ => none }
def cellsLastRow : OpenClaim := { program := "ytjmdjadnllakpaa", sum := "6f4a124e532405c50ef8443b09afacfaea4dcf60353abcaf0a0d1be0e7722113", func := "oubliette/oublaw2.CellsLast", spec := "cellsLast", apart := false }
def CellsLastSaid : Prop := cellsLastRow.holds Try.pinned (OpenSpec.ofChange cellsLastSpec)

/-- ITS FALSE NEIGHBOUR: 'it returns false'. Refute it at one input. -/
def cellsLastWrong : ChangeSpec := { name := "cellsLast", fn := fun _ => fun
  | [d1, d2] => { results := [.lit (.bool false)], args := [d1, d2] }
  | _ => none }
def CellsLastWrongFalsely : Prop := cellsLastRow.holds Try.pinned (OpenSpec.ofChange cellsLastWrong)

/- THE SECOND FORM. 'bulk': how many values and letters a reading holds, each counted each time it is reached (what is shared counts as often as it is met; a slice's spare places count too). A statement '..UptoSaid' is the law's where the arguments, and the package variables that the reading takes, are together of bulk at most 1048576: NARROWER than '..Said'. Prove '..Said' where nothing that the law and all that it calls make is longer than what came in: it says more and counts as full. Else prove '..UptoSaid'. A law counts once. -/
mutual
def uptoBulk {H : Type} : DataW H → Nat
  | .lit (.string bytes) => bytes.length + 1
  | .lit _ => 1
  | .nil => 1
  | .ptr d => uptoBulk d + 1
  | .slice elems spare => uptoBulkAll elems + uptoBulkAll spare + 1
  | .agg parts => uptoBulkAll parts + 1
  | .iface _ d => uptoBulk d + 1
  | .map entries => uptoBulkEntries entries + 1
  | .held _ => 1
def uptoBulkAll {H : Type} : List (DataW H) → Nat
  | [] => 0
  | d :: r => uptoBulk d + uptoBulkAll r
def uptoBulkEntries {H : Type} : List (Lit × DataW H) → Nat
  | [] => 0
  | x :: r => uptoBulkEntry x + uptoBulkEntries r
def uptoBulkEntry {H : Type} : Lit × DataW H → Nat
  | (.string bytes, d) => bytes.length + uptoBulk d + 1
  | (_, d) => uptoBulk d + 1
 end
def uptoSmall : (H : Type) → List (DataW H) → Bool := fun _ ds => decide (uptoBulkAll ds ≤ 1048576)
def OpenSpec.upto (s : _root_.Go.ChangeSpec) : _root_.Go.OpenSpec := { _root_.Go.OpenSpec.ofChange s with cond := some uptoSmall }

/-- 'oublaw2.CellsPlay', WHERE WHAT IT READS IS OF BULK AT MOST 1048576: true; the input reads as it did. -/
def cellsPlayUptoRow : OpenClaim := { program := "ytjmdjadnllakpaa", sum := "6f4a124e532405c50ef8443b09afacfaea4dcf60353abcaf0a0d1be0e7722113", func := "oubliette/oublaw2.CellsPlay", spec := "cellsPlay", apart := false, narrowed := true }
def CellsPlayUptoSaid : Prop := cellsPlayUptoRow.holds Try.pinned (OpenSpec.upto cellsPlaySpec)

/-- 'oublaw2.CellsSure', WHERE WHAT IT READS IS OF BULK AT MOST 1048576: true; the input reads as it did. -/
def cellsSureUptoRow : OpenClaim := { program := "ytjmdjadnllakpaa", sum := "6f4a124e532405c50ef8443b09afacfaea4dcf60353abcaf0a0d1be0e7722113", func := "oubliette/oublaw2.CellsSure", spec := "cellsSure", apart := false, narrowed := true }
def CellsSureUptoSaid : Prop := cellsSureUptoRow.holds Try.pinned (OpenSpec.upto cellsSureSpec)

/-- 'oublaw2.CellsArmed', WHERE WHAT IT READS IS OF BULK AT MOST 1048576: true; the input reads as it did. -/
def cellsArmedUptoRow : OpenClaim := { program := "ytjmdjadnllakpaa", sum := "6f4a124e532405c50ef8443b09afacfaea4dcf60353abcaf0a0d1be0e7722113", func := "oubliette/oublaw2.CellsArmed", spec := "cellsArmed", apart := false, narrowed := true }
def CellsArmedUptoSaid : Prop := cellsArmedUptoRow.holds Try.pinned (OpenSpec.upto cellsArmedSpec)

/-- 'oublaw2.CellsOwn', WHERE WHAT IT READS IS OF BULK AT MOST 1048576: true; the input reads as it did. -/
def cellsOwnUptoRow : OpenClaim := { program := "ytjmdjadnllakpaa", sum := "6f4a124e532405c50ef8443b09afacfaea4dcf60353abcaf0a0d1be0e7722113", func := "oubliette/oublaw2.CellsOwn", spec := "cellsOwn", apart := false, narrowed := true }
def CellsOwnUptoSaid : Prop := cellsOwnUptoRow.holds Try.pinned (OpenSpec.upto cellsOwnSpec)

/-- 'oublaw2.CellsLast', WHERE WHAT IT READS IS OF BULK AT MOST 1048576: true; the input reads as it did. -/
def cellsLastUptoRow : OpenClaim := { program := "ytjmdjadnllakpaa", sum := "6f4a124e532405c50ef8443b09afacfaea4dcf60353abcaf0a0d1be0e7722113", func := "oubliette/oublaw2.CellsLast", spec := "cellsLast", apart := false, narrowed := true }
def CellsLastUptoSaid : Prop := cellsLastUptoRow.holds Try.pinned (OpenSpec.upto cellsLastSpec)

end Rows
end Go.Proofs.Ytjmdjadnllakpaa
