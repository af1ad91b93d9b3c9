/-
  No cell of these rows narrows 'for every input' (looked for: loops, veiled, ifaces, maps, wideKeys, modest, calm, conditions, laid).
  DERIVED. THE GIVEN ROWS OF THIS SEAT. 6 by the template 'for every input the law returns true; each argument reads behind the call as it read before'; 0 by the template 'total and deterministic' (their statements: YtleimdlpcgpjfaaTotals.lean).
  GIVEN WITH THE SEED: the statements are not yours to turn. If you find one false, say at which input.
  Laid BY PROGRAM, IN A SANDBOX (cutbox-rows.mjs): the forced cells as the released guide's own fill.sh prints them over the translation 76a564e5361c3276… (all of the seat's roots in one cut). By AI agents, Wed Nov 11 2026. No macro, syntax, notation, axiom, sorry.
-/
import Derived.Test.YtleimdlpcgpjfaaChecked
import GoSem.Claim
import GoSem.ClaimJoined
import GoSem.ClaimMapViews
import Derived.JoinedTies
import Derived.KernelRfl
namespace Go.Proofs.Ytleimdlpcgpjfaa
/- THE CELL 'sum', in the pinned program and in every row, IS THE sha256 OF THE DUMP (.gsa) THAT YtleimdlpcgpjfaaProg.lean LOADS. Nothing in Lean hashes anything: it is a label: what it is worth is what the hold of that sum in a sandbox is worth. -/
noncomputable def Try.pinned : Pinned := { name := "ytleimdlpcgpjfaa", sum := "76a564e5361c3276846537c097f61ce489db5fb428a208e043620048586e4abb", checked := Try.checked }
namespace Rows
def none {H : Type} : Left H := { results := [], args := [] }

/-- 'oublaw4.SlabWrites': WHATEVER THE INPUT: true; the input reads as it did. -/
def slabWritesSpec : ChangeSpec := { name := "slabWrites", fn := fun _ => fun
  | [d1, d2] => { results := [.lit (.bool true)], args := [d1, d2] }
  | _ => none }
def slabWritesRow : OpenClaim := { program := "ytleimdlpcgpjfaa", sum := "76a564e5361c3276846537c097f61ce489db5fb428a208e043620048586e4abb", func := "oubliette/oublaw4.SlabWrites", spec := "slabWrites", unfollowed := true, recurses := true, apart := false }
def SlabWritesSaid : Prop := slabWritesRow.holds Try.pinned (OpenSpec.ofChange slabWritesSpec)

/-- ITS FALSE NEIGHBOUR: 'it returns false'. Refute it at one input. -/
def slabWritesWrong : ChangeSpec := { name := "slabWrites", fn := fun _ => fun
  | [d1, d2] => { results := [.lit (.bool false)], args := [d1, d2] }
  | _ => none }
def SlabWritesWrongFalsely : Prop := slabWritesRow.holds Try.pinned (OpenSpec.ofChange slabWritesWrong)

/-- 'oublaw4.SlabReads': WHATEVER THE INPUT: true; the input reads as it did. -/
def slabReadsSpec : ChangeSpec := { name := "slabReads", fn := fun _ => fun
  | [d1, d2] => { results := [.lit (.bool true)], args := [d1, d2] }
  | _ => none }
def slabReadsRow : OpenClaim := { program := "ytleimdlpcgpjfaa", sum := "76a564e5361c3276846537c097f61ce489db5fb428a208e043620048586e4abb", func := "oubliette/oublaw4.SlabReads", spec := "slabReads", unfollowed := true, recurses := true, apart := false }
def SlabReadsSaid : Prop := slabReadsRow.holds Try.pinned (OpenSpec.ofChange slabReadsSpec)

/-- ITS FALSE NEIGHBOUR: 'it returns false'. Refute it at one input. -/
def slabReadsWrong : ChangeSpec := { name := "slabReads", fn := fun _ => fun
  | [d1, d2] => { results := [.lit (.bool false)], args := [d1, d2] }
  | _ => none }
def SlabReadsWrongFalsely : Prop := slabReadsRow.holds Try.pinned (OpenSpec.ofChange slabReadsWrong)

/-- 'oublaw4.SlabCuts': WHATEVER THE INPUT: true; the input reads as it did. -/
def slabCutsSpec : ChangeSpec := { name := "slabCuts", fn := fun _ => fun
  | [d1, d2, d3] => { results := [.lit (.bool true)], args := [d1, d2, d3] }
  | _ => none }
def slabCutsRow : OpenClaim := { program := "ytleimdlpcgpjfaa", sum := "76a564e5361c3276846537c097f61ce489db5fb428a208e043620048586e4abb", func := "oubliette/oublaw4.SlabCuts", spec := "slabCuts", unfollowed := true, recurses := true, apart := false }
def SlabCutsSaid : Prop := slabCutsRow.holds Try.pinned (OpenSpec.ofChange slabCutsSpec)

/-- ITS FALSE NEIGHBOUR: 'it returns false'. Refute it at one input. -/
def slabCutsWrong : ChangeSpec := { name := "slabCuts", fn := fun _ => fun
  | [d1, d2, d3] => { results := [.lit (.bool false)], args := [d1, d2, d3] }
  | _ => none }
def SlabCutsWrongFalsely : Prop := slabCutsRow.holds Try.pinned (OpenSpec.ofChange slabCutsWrong)

/-- 'oublaw4.SlabBack': WHATEVER THE INPUT: true; the input reads as it did. -/
def slabBackSpec : ChangeSpec := { name := "slabBack", fn := fun _ => fun
  | [d1, d2] => { results := [.lit (.bool true)], args := [d1, d2] }
  | _ => none }
def slabBackRow : OpenClaim := { program := "ytleimdlpcgpjfaa", sum := "76a564e5361c3276846537c097f61ce489db5fb428a208e043620048586e4abb", func := "oubliette/oublaw4.SlabBack", spec := "slabBack", unfollowed := true, recurses := true, apart := false }
def SlabBackSaid : Prop := slabBackRow.holds Try.pinned (OpenSpec.ofChange slabBackSpec)

/-- ITS FALSE NEIGHBOUR: 'it returns false'. Refute it at one input. -/
def slabBackWrong : ChangeSpec := { name := "slabBack", fn := fun _ => fun
  | [d1, d2] => { results := [.lit (.bool false)], args := [d1, d2] }
  | _ => none }
def SlabBackWrongFalsely : Prop := slabBackRow.holds Try.pinned (OpenSpec.ofChange slabBackWrong)

/-- 'oublaw4.SlabEnds': WHATEVER THE INPUT: true; the input reads as it did. -/
def slabEndsSpec : ChangeSpec := { name := "slabEnds", fn := fun _ => fun
  | [d1, d2] => { results := [.lit (.bool true)], args := [d1, d2] }
  | _ => none }
def slabEndsRow : OpenClaim := { program := "ytleimdlpcgpjfaa", sum := "76a564e5361c3276846537c097f61ce489db5fb428a208e043620048586e4abb", func := "oubliette/oublaw4.SlabEnds", spec := "slabEnds", unfollowed := true, recurses := true, apart := false }
def SlabEndsSaid : Prop := slabEndsRow.holds Try.pinned (OpenSpec.ofChange slabEndsSpec)

/-- ITS FALSE NEIGHBOUR: 'it returns false'. Refute it at one input. -/
def slabEndsWrong : ChangeSpec := { name := "slabEnds", fn := fun _ => fun
  | [d1, d2] => { results := [.lit (.bool false)], args := [d1, d2] }
  | _ => none }
def SlabEndsWrongFalsely : Prop := slabEndsRow.holds Try.pinned (OpenSpec.ofChange slabEndsWrong)

/-- 'oublaw4.SlabJoins': WHATEVER THE INPUT: true; the input reads as it did. -/
def slabJoinsSpec : ChangeSpec := { name := "slabJoins", fn := fun _ => fun
  | [d1, d2, d3, d4] => { results := [.lit (.bool true)], args := [d1, d2, d3, d4] }
  | _ => none }
def slabJoinsRow : OpenClaim := { program := "ytleimdlpcgpjfaa", sum := "76a564e5361c3276846537c097f61ce489db5fb428a208e043620048586e4abb", func := "oubliette/oublaw4.SlabJoins", spec := "slabJoins", unfollowed := true, recurses := true, apart := false }
def SlabJoinsSaid : Prop := slabJoinsRow.holds Try.pinned (OpenSpec.ofChange slabJoinsSpec)

/-- ITS FALSE NEIGHBOUR: 'it returns false'. Refute it at one input. -/
def slabJoinsWrong : ChangeSpec := { name := "slabJoins", fn := fun _ => fun
  | [d1, d2, d3, d4] => { results := [.lit (.bool false)], args := [d1, d2, d3, d4] }
  | _ => none }
def SlabJoinsWrongFalsely : Prop := slabJoinsRow.holds Try.pinned (OpenSpec.ofChange slabJoinsWrong)

/- THE SECOND FORM. 'bulk': how many values and letters a reading holds, each counted each time it is reached (what is shared counts as often as it is met; a slice's spare places count too). A statement '..UptoSaid' is the law's where the arguments, and the package variables that the reading takes, are together of bulk at most 1048576: NARROWER than '..Said'. Prove '..Said' where nothing that the law and all that it calls make is longer than what came in: it says more and counts as full. Else prove '..UptoSaid'. A law counts once. -/
mutual
def uptoBulk {H : Type} : DataW H → Nat
  | .lit (.string bytes) => bytes.length + 1
  | .lit _ => 1
  | .nil => 1
  | .ptr d => uptoBulk d + 1
  | .slice elems spare => uptoBulkAll elems + uptoBulkAll spare + 1
  | .agg parts => uptoBulkAll parts + 1
  | .iface _ d => uptoBulk d + 1
  | .map entries => uptoBulkEntries entries + 1
  | .held _ => 1
def uptoBulkAll {H : Type} : List (DataW H) → Nat
  | [] => 0
  | d :: r => uptoBulk d + uptoBulkAll r
def uptoBulkEntries {H : Type} : List (Lit × DataW H) → Nat
  | [] => 0
  | x :: r => uptoBulkEntry x + uptoBulkEntries r
def uptoBulkEntry {H : Type} : Lit × DataW H → Nat
  | (.string bytes, d) => bytes.length + uptoBulk d + 1
  | (_, d) => uptoBulk d + 1
 end
def uptoSmall : (H : Type) → List (DataW H) → Bool := fun _ ds => decide (uptoBulkAll ds ≤ 1048576)
def OpenSpec.upto (s : _root_.Go.ChangeSpec) : _root_.Go.OpenSpec := { _root_.Go.OpenSpec.ofChange s with cond := some uptoSmall }

/-- 'oublaw4.SlabWrites', WHERE WHAT IT READS IS OF BULK AT MOST 1048576: true; the input reads as it did. -/
def slabWritesUptoRow : OpenClaim := { program := "ytleimdlpcgpjfaa", sum := "76a564e5361c3276846537c097f61ce489db5fb428a208e043620048586e4abb", func := "oubliette/oublaw4.SlabWrites", spec := "slabWrites", unfollowed := true, recurses := true, apart := false, narrowed := true }
def SlabWritesUptoSaid : Prop := slabWritesUptoRow.holds Try.pinned (OpenSpec.upto slabWritesSpec)

/-- 'oublaw4.SlabReads', WHERE WHAT IT READS IS OF BULK AT MOST 1048576: true; the input reads as it did. -/
def slabReadsUptoRow : OpenClaim := { program := "ytleimdlpcgpjfaa", sum := "76a564e5361c3276846537c097f61ce489db5fb428a208e043620048586e4abb", func := "oubliette/oublaw4.SlabReads", spec := "slabReads", unfollowed := true, recurses := true, apart := false, narrowed := true }
def SlabReadsUptoSaid : Prop := slabReadsUptoRow.holds Try.pinned (OpenSpec.upto slabReadsSpec)

/-- 'oublaw4.SlabCuts', WHERE WHAT IT READS IS OF BULK AT MOST 1048576: true; the input reads as it did. -/
def slabCutsUptoRow : OpenClaim := { program := "ytleimdlpcgpjfaa", sum := "76a564e5361c3276846537c097f61ce489db5fb428a208e043620048586e4abb", func := "oubliette/oublaw4.SlabCuts", spec := "slabCuts", unfollowed := true, recurses := true, apart := false, narrowed := true }
def SlabCutsUptoSaid : Prop := slabCutsUptoRow.holds Try.pinned (OpenSpec.upto slabCutsSpec)

/-- 'oublaw4.SlabBack', WHERE WHAT IT READS IS OF BULK AT MOST 1048576: true; the input reads as it did. -/
def slabBackUptoRow : OpenClaim := { program := "ytleimdlpcgpjfaa", sum := "76a564e5361c3276846537c097f61ce489db5fb428a208e043620048586e4abb", func := "oubliette/oublaw4.SlabBack", spec := "slabBack", unfollowed := true, recurses := true, apart := false, narrowed := true }
def SlabBackUptoSaid : Prop := slabBackUptoRow.holds Try.pinned (OpenSpec.upto slabBackSpec)

/-- 'oublaw4.SlabEnds', WHERE WHAT IT READS IS OF BULK AT MOST 1048576: true; the input reads as it did. -/
def slabEndsUptoRow : OpenClaim := { program := "ytleimdlpcgpjfaa", sum := "76a564e5361c3276846537c097f61ce489db5fb428a208e043620048586e4abb", func := "oubliette/oublaw4.SlabEnds", spec := "slabEnds", unfollowed := true, recurses := true, apart := false, narrowed := true }
def SlabEndsUptoSaid : Prop := slabEndsUptoRow.holds Try.pinned (OpenSpec.upto slabEndsSpec)

/-- 'oublaw4.SlabJoins', WHERE WHAT IT READS IS OF BULK AT MOST 1048576: true; the input reads as it did. -/
def slabJoinsUptoRow : OpenClaim := { program := "ytleimdlpcgpjfaa", sum := "76a564e5361c3276846537c097f61ce489db5fb428a208e043620048586e4abb", func := "oubliette/oublaw4.SlabJoins", spec := "slabJoins", unfollowed := true, recurses := true, apart := false, narrowed := true }
def SlabJoinsUptoSaid : Prop := slabJoinsUptoRow.holds Try.pinned (OpenSpec.upto slabJoinsSpec)

end Rows
end Go.Proofs.Ytleimdlpcgpjfaa
