/-
  No cell of these rows narrows 'for every input' (looked for: loops, veiled, ifaces, maps, wideKeys, modest, calm, conditions, laid).
  DERIVED. THE GIVEN ROWS OF THIS SEAT. 4 by the template 'for every input the law returns true; each argument reads behind the call as it read before'; 0 by the template 'total and deterministic' (their statements: YtfandaicnolkeaaTotals.lean).
  GIVEN WITH THE SEED: the statements are not yours to turn. If you find one false, say at which input.
  Laid BY PROGRAM, IN A SANDBOX (cutbox-rows.mjs): the forced cells as the released guide's own fill.sh prints them over the translation 710cb092c163dedd… (all of the seat's roots in one cut). By AI agents, Wed Nov 11 2026. No macro, syntax, notation, axiom, sorry.
-/
import Derived.Test.YtfandaicnolkeaaChecked
import GoSem.Claim
import GoSem.ClaimJoined
import GoSem.ClaimMapViews
import Derived.JoinedTies
import Derived.KernelRfl
namespace Go.Proofs.Ytfandaicnolkeaa
/- THE CELL 'sum', in the pinned program and in every row, IS THE sha256 OF THE DUMP (.gsa) THAT YtfandaicnolkeaaProg.lean LOADS. Nothing in Lean hashes anything: it is a label: what it is worth is what the hold of that sum in a sandbox is worth. -/
noncomputable def Try.pinned : Pinned := { name := "ytfandaicnolkeaa", sum := "710cb092c163dedd2093751a7ca2ac80a43021a81499cd930580afa62d9a5b83", checked := Try.checked }
namespace Rows
def none {H : Type} : Left H := { results := [], args := [] }

/-- 'oublaw1.TapeDraws': WHATEVER THE INPUT: true; the input reads as it did. -/
def tapeDrawsSpec : ChangeSpec := { name := "tapeDraws", fn := fun _ => fun
  | [d1, d2, d3] => { results := [.lit (.bool true)], args := [d1, d2, d3] }
  | _ => none }
def tapeDrawsRow : OpenClaim := { program := "ytfandaicnolkeaa", sum := "710cb092c163dedd2093751a7ca2ac80a43021a81499cd930580afa62d9a5b83", func := "oubliette/oublaw1.TapeDraws", spec := "tapeDraws", apart := false }
def TapeDrawsSaid : Prop := tapeDrawsRow.holds Try.pinned (OpenSpec.ofChange tapeDrawsSpec)

/-- ITS FALSE NEIGHBOUR: 'it returns false'. Refute it at one input. -/
def tapeDrawsWrong : ChangeSpec := { name := "tapeDraws", fn := fun _ => fun
  | [d1, d2, d3] => { results := [.lit (.bool false)], args := [d1, d2, d3] }
  | _ => none }
def TapeDrawsWrongFalsely : Prop := tapeDrawsRow.holds Try.pinned (OpenSpec.ofChange tapeDrawsWrong)

/-- 'oublaw1.TapeCuts': WHATEVER THE INPUT: true; the input reads as it did. -/
def tapeCutsSpec : ChangeSpec := { name := "tapeCuts", fn := fun _ => fun
  | [d1, d2, d3, d4] => { results := [.lit (.bool true)], args := [d1, d2, d3, d4] }
  | _ => none }
def tapeCutsRow : OpenClaim := { program := "ytfandaicnolkeaa", sum := "710cb092c163dedd2093751a7ca2ac80a43021a81499cd930580afa62d9a5b83", func := "oubliette/oublaw1.TapeCuts", spec := "tapeCuts", apart := false }
def TapeCutsSaid : Prop := tapeCutsRow.holds Try.pinned (OpenSpec.ofChange tapeCutsSpec)

/-- ITS FALSE NEIGHBOUR: 'it returns false'. Refute it at one input. -/
def tapeCutsWrong : ChangeSpec := { name := "tapeCuts", fn := fun _ => fun
  | [d1, d2, d3, d4] => { results := [.lit (.bool false)], args := [d1, d2, d3, d4] }
  | _ => none }
def TapeCutsWrongFalsely : Prop := tapeCutsRow.holds Try.pinned (OpenSpec.ofChange tapeCutsWrong)

/-- 'oublaw1.TapeHeights': WHATEVER THE INPUT: true; the input reads as it did. -/
def tapeHeightsSpec : ChangeSpec := { name := "tapeHeights", fn := fun _ => fun
  | [d1, d2, d3] => { results := [.lit (.bool true)], args := [d1, d2, d3] }
  | _ => none }
def tapeHeightsRow : OpenClaim := { program := "ytfandaicnolkeaa", sum := "710cb092c163dedd2093751a7ca2ac80a43021a81499cd930580afa62d9a5b83", func := "oubliette/oublaw1.TapeHeights", spec := "tapeHeights", apart := false }
def TapeHeightsSaid : Prop := tapeHeightsRow.holds Try.pinned (OpenSpec.ofChange tapeHeightsSpec)

/-- ITS FALSE NEIGHBOUR: 'it returns false'. Refute it at one input. -/
def tapeHeightsWrong : ChangeSpec := { name := "tapeHeights", fn := fun _ => fun
  | [d1, d2, d3] => { results := [.lit (.bool false)], args := [d1, d2, d3] }
  | _ => none }
def TapeHeightsWrongFalsely : Prop := tapeHeightsRow.holds Try.pinned (OpenSpec.ofChange tapeHeightsWrong)

/-- 'oublaw1.TapeEnd': WHATEVER THE INPUT: true; the input reads as it did. -/
def tapeEndSpec : ChangeSpec := { name := "tapeEnd", fn := fun _ => fun
  | [d1, d2, d3] => { results := [.lit (.bool true)], args := [d1, d2, d3] }
  | _ => none }
def tapeEndRow : OpenClaim := { program := "ytfandaicnolkeaa", sum := "710cb092c163dedd2093751a7ca2ac80a43021a81499cd930580afa62d9a5b83", func := "oubliette/oublaw1.TapeEnd", spec := "tapeEnd", apart := false }
def TapeEndSaid : Prop := tapeEndRow.holds Try.pinned (OpenSpec.ofChange tapeEndSpec)

/-- ITS FALSE NEIGHBOUR: 'it returns false'. Refute it at one input. -/
def tapeEndWrong : ChangeSpec := { name := "tapeEnd", fn := fun _ => fun
  | [d1, d2, d3] => { results := [.lit (.bool false)], args := [d1, d2, d3] }
  | _ => none }
def TapeEndWrongFalsely : Prop := tapeEndRow.holds Try.pinned (OpenSpec.ofChange tapeEndWrong)

/- THE SECOND FORM. 'bulk': how many values and letters a reading holds, each counted each time it is reached (what is shared counts as often as it is met; a slice's spare places count too). A statement '..UptoSaid' is the law's where the arguments, and the package variables that the reading takes, are together of bulk at most 1048576: NARROWER than '..Said'. Prove '..Said' where nothing that the law and all that it calls make is longer than what came in: it says more and counts as full. Else prove '..UptoSaid'. A law counts once. -/
mutual
def uptoBulk {H : Type} : DataW H → Nat
  | .lit (.string bytes) => bytes.length + 1
  | .lit _ => 1
  | .nil => 1
  | .ptr d => uptoBulk d + 1
  | .slice elems spare => uptoBulkAll elems + uptoBulkAll spare + 1
  | .agg parts => uptoBulkAll parts + 1
  | .iface _ d => uptoBulk d + 1
  | .map entries => uptoBulkEntries entries + 1
  | .held _ => 1
def uptoBulkAll {H : Type} : List (DataW H) → Nat
  | [] => 0
  | d :: r => uptoBulk d + uptoBulkAll r
def uptoBulkEntries {H : Type} : List (Lit × DataW H) → Nat
  | [] => 0
  | x :: r => uptoBulkEntry x + uptoBulkEntries r
def uptoBulkEntry {H : Type} : Lit × DataW H → Nat
  | (.string bytes, d) => bytes.length + uptoBulk d + 1
  | (_, d) => uptoBulk d + 1
 end
def uptoSmall : (H : Type) → List (DataW H) → Bool := fun _ ds => decide (uptoBulkAll ds ≤ 1048576)
def OpenSpec.upto (s : _root_.Go.ChangeSpec) : _root_.Go.OpenSpec := { _root_.Go.OpenSpec.ofChange s with cond := some uptoSmall }

/-- 'oublaw1.TapeDraws', WHERE WHAT IT READS IS OF BULK AT MOST 1048576: true; the input reads as it did. -/
def tapeDrawsUptoRow : OpenClaim := { program := "ytfandaicnolkeaa", sum := "710cb092c163dedd2093751a7ca2ac80a43021a81499cd930580afa62d9a5b83", func := "oubliette/oublaw1.TapeDraws", spec := "tapeDraws", apart := false, narrowed := true }
def TapeDrawsUptoSaid : Prop := tapeDrawsUptoRow.holds Try.pinned (OpenSpec.upto tapeDrawsSpec)

/-- 'oublaw1.TapeCuts', WHERE WHAT IT READS IS OF BULK AT MOST 1048576: true; the input reads as it did. -/
def tapeCutsUptoRow : OpenClaim := { program := "ytfandaicnolkeaa", sum := "710cb092c163dedd2093751a7ca2ac80a43021a81499cd930580afa62d9a5b83", func := "oubliette/oublaw1.TapeCuts", spec := "tapeCuts", apart := false, narrowed := true }
def TapeCutsUptoSaid : Prop := tapeCutsUptoRow.holds Try.pinned (OpenSpec.upto tapeCutsSpec)

/-- 'oublaw1.TapeHeights', WHERE WHAT IT READS IS OF BULK AT MOST 1048576: true; the input reads as it did. -/
def tapeHeightsUptoRow : OpenClaim := { program := "ytfandaicnolkeaa", sum := "710cb092c163dedd2093751a7ca2ac80a43021a81499cd930580afa62d9a5b83", func := "oubliette/oublaw1.TapeHeights", spec := "tapeHeights", apart := false, narrowed := true }
def TapeHeightsUptoSaid : Prop := tapeHeightsUptoRow.holds Try.pinned (OpenSpec.upto tapeHeightsSpec)

/-- 'oublaw1.TapeEnd', WHERE WHAT IT READS IS OF BULK AT MOST 1048576: true; the input reads as it did. -/
def tapeEndUptoRow : OpenClaim := { program := "ytfandaicnolkeaa", sum := "710cb092c163dedd2093751a7ca2ac80a43021a81499cd930580afa62d9a5b83", func := "oubliette/oublaw1.TapeEnd", spec := "tapeEnd", apart := false, narrowed := true }
def TapeEndUptoSaid : Prop := tapeEndUptoRow.holds Try.pinned (OpenSpec.upto tapeEndSpec)

end Rows
end Go.Proofs.Ytfandaicnolkeaa
