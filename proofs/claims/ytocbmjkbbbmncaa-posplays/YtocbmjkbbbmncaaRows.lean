/-
  No cell of these rows narrows 'for every input' (looked for: loops, veiled, ifaces, maps, wideKeys, modest, calm, conditions, laid).
  DERIVED. THE GIVEN ROWS OF THIS SEAT. 4 by the template 'for every input the law returns true; each argument reads behind the call as it read before'; 0 by the template 'total and deterministic' (their statements: YtocbmjkbbbmncaaTotals.lean).
  GIVEN WITH THE SEED: the statements are not yours to turn. If you find one false, say at which input.
  Laid BY PROGRAM, IN A SANDBOX (cutbox-rows.mjs): the forced cells as the released guide's own fill.sh prints them over the translation afbc363d171d0c9e… (all of the seat's roots in one cut). By AI agents, Wed Nov 11 2026. No macro, syntax, notation, axiom, sorry.
-/
import Derived.Test.YtocbmjkbbbmncaaChecked
import GoSem.Claim
import GoSem.ClaimJoined
import GoSem.ClaimMapViews
import Derived.JoinedTies
import Derived.KernelRfl
namespace Go.Proofs.Ytocbmjkbbbmncaa
/- THE CELL 'sum', in the pinned program and in every row, IS THE sha256 OF THE DUMP (.gsa) THAT YtocbmjkbbbmncaaProg.lean LOADS. Nothing in Lean hashes anything: it is a label: what it is worth is what the hold of that sum in a sandbox is worth. -/
noncomputable def Try.pinned : Pinned := { name := "ytocbmjkbbbmncaa", sum := "afbc363d171d0c9e524722744953c181e9de0e3a1eaf10beaf2ac26ed800bceb", checked := Try.checked }
namespace Rows
def none {H : Type} : Left H := { results := [], args := [] }

/-- 'oublaw8.PosPlays': WHATEVER THE INPUT: true; the input reads as it did. -/
def posPlaysSpec : ChangeSpec := { name := "posPlays", fn := fun _ => fun
  | [d1, d2] => { results := [.lit (.bool true)], args := [d1, d2] }
  | _ => none }
def posPlaysRow : OpenClaim := { program := "ytocbmjkbbbmncaa", sum := "afbc363d171d0c9e524722744953c181e9de0e3a1eaf10beaf2ac26ed800bceb", func := "oubliette/oublaw8.PosPlays", spec := "posPlays", apart := false }
def PosPlaysSaid : Prop := posPlaysRow.holds Try.pinned (OpenSpec.ofChange posPlaysSpec)

/-- ITS FALSE NEIGHBOUR: 'it returns false'. Refute it at one input. -/
def posPlaysWrong : ChangeSpec := { name := "posPlays", fn := fun _ => fun
  | [d1, d2] => { results := [.lit (.bool false)], args := [d1, d2] }
  | _ => none }
def PosPlaysWrongFalsely : Prop := posPlaysRow.holds Try.pinned (OpenSpec.ofChange posPlaysWrong)

/-- 'oublaw8.PosBack': WHATEVER THE INPUT: true; the input reads as it did. -/
def posBackSpec : ChangeSpec := { name := "posBack", fn := fun _ => fun
  | [d1, d2] => { results := [.lit (.bool true)], args := [d1, d2] }
  | _ => none }
def posBackRow : OpenClaim := { program := "ytocbmjkbbbmncaa", sum := "afbc363d171d0c9e524722744953c181e9de0e3a1eaf10beaf2ac26ed800bceb", func := "oubliette/oublaw8.PosBack", spec := "posBack", apart := false }
def PosBackSaid : Prop := posBackRow.holds Try.pinned (OpenSpec.ofChange posBackSpec)

/-- ITS FALSE NEIGHBOUR: 'it returns false'. Refute it at one input. -/
def posBackWrong : ChangeSpec := { name := "posBack", fn := fun _ => fun
  | [d1, d2] => { results := [.lit (.bool false)], args := [d1, d2] }
  | _ => none }
def PosBackWrongFalsely : Prop := posBackRow.holds Try.pinned (OpenSpec.ofChange posBackWrong)

/-- 'oublaw8.PosAll': WHATEVER THE INPUT: true; the input reads as it did. -/
def posAllSpec : ChangeSpec := { name := "posAll", fn := fun _ => fun
  | [d1, d2] => { results := [.lit (.bool true)], args := [d1, d2] }
  | _ => none }
def posAllRow : OpenClaim := { program := "ytocbmjkbbbmncaa", sum := "afbc363d171d0c9e524722744953c181e9de0e3a1eaf10beaf2ac26ed800bceb", func := "oubliette/oublaw8.PosAll", spec := "posAll", apart := false }
def PosAllSaid : Prop := posAllRow.holds Try.pinned (OpenSpec.ofChange posAllSpec)

/-- ITS FALSE NEIGHBOUR: 'it returns false'. Refute it at one input. -/
def posAllWrong : ChangeSpec := { name := "posAll", fn := fun _ => fun
  | [d1, d2] => { results := [.lit (.bool false)], args := [d1, d2] }
  | _ => none }
def PosAllWrongFalsely : Prop := posAllRow.holds Try.pinned (OpenSpec.ofChange posAllWrong)

/-- 'oublaw8.PosLast': WHATEVER THE INPUT: true; the input reads as it did. -/
def posLastSpec : ChangeSpec := { name := "posLast", fn := fun _ => fun
  | [d1, d2, d3] => { results := [.lit (.bool true)], args := [d1, d2, d3] }
  | _ => none }
def posLastRow : OpenClaim := { program := "ytocbmjkbbbmncaa", sum := "afbc363d171d0c9e524722744953c181e9de0e3a1eaf10beaf2ac26ed800bceb", func := "oubliette/oublaw8.PosLast", spec := "posLast", apart := false }
def PosLastSaid : Prop := posLastRow.holds Try.pinned (OpenSpec.ofChange posLastSpec)

/-- ITS FALSE NEIGHBOUR: 'it returns false'. Refute it at one input. -/
def posLastWrong : ChangeSpec := { name := "posLast", fn := fun _ => fun
  | [d1, d2, d3] => { results := [.lit (.bool false)], args := [d1, d2, d3] }
  | _ => none }
def PosLastWrongFalsely : Prop := posLastRow.holds Try.pinned (OpenSpec.ofChange posLastWrong)

/- THE SECOND FORM. 'bulk': how many values and letters a reading holds, each counted each time it is reached (what is shared counts as often as it is met; a slice's spare places count too). A statement '..UptoSaid' is the law's where the arguments, and the package variables that the reading takes, are together of bulk at most 1048576: NARROWER than '..Said'. Prove '..Said' where nothing that the law and all that it calls make is longer than what came in: it says more and counts as full. Else prove '..UptoSaid'. A law counts once. -/
mutual
def uptoBulk {H : Type} : DataW H → Nat
  | .lit (.string bytes) => bytes.length + 1
  | .lit _ => 1
  | .nil => 1
  | .ptr d => uptoBulk d + 1
  | .slice elems spare => uptoBulkAll elems + uptoBulkAll spare + 1
  | .agg parts => uptoBulkAll parts + 1
  | .iface _ d => uptoBulk d + 1
  | .map entries => uptoBulkEntries entries + 1
  | .held _ => 1
def uptoBulkAll {H : Type} : List (DataW H) → Nat
  | [] => 0
  | d :: r => uptoBulk d + uptoBulkAll r
def uptoBulkEntries {H : Type} : List (Lit × DataW H) → Nat
  | [] => 0
  | x :: r => uptoBulkEntry x + uptoBulkEntries r
def uptoBulkEntry {H : Type} : Lit × DataW H → Nat
  | (.string bytes, d) => bytes.length + uptoBulk d + 1
  | (_, d) => uptoBulk d + 1
 end
def uptoSmall : (H : Type) → List (DataW H) → Bool := fun _ ds => decide (uptoBulkAll ds ≤ 1048576)
def OpenSpec.upto (s : _root_.Go.ChangeSpec) : _root_.Go.OpenSpec := { _root_.Go.OpenSpec.ofChange s with cond := some uptoSmall }

/-- 'oublaw8.PosPlays', WHERE WHAT IT READS IS OF BULK AT MOST 1048576: true; the input reads as it did. -/
def posPlaysUptoRow : OpenClaim := { program := "ytocbmjkbbbmncaa", sum := "afbc363d171d0c9e524722744953c181e9de0e3a1eaf10beaf2ac26ed800bceb", func := "oubliette/oublaw8.PosPlays", spec := "posPlays", apart := false, narrowed := true }
def PosPlaysUptoSaid : Prop := posPlaysUptoRow.holds Try.pinned (OpenSpec.upto posPlaysSpec)

/-- 'oublaw8.PosBack', WHERE WHAT IT READS IS OF BULK AT MOST 1048576: true; the input reads as it did. -/
def posBackUptoRow : OpenClaim := { program := "ytocbmjkbbbmncaa", sum := "afbc363d171d0c9e524722744953c181e9de0e3a1eaf10beaf2ac26ed800bceb", func := "oubliette/oublaw8.PosBack", spec := "posBack", apart := false, narrowed := true }
def PosBackUptoSaid : Prop := posBackUptoRow.holds Try.pinned (OpenSpec.upto posBackSpec)

/-- 'oublaw8.PosAll', WHERE WHAT IT READS IS OF BULK AT MOST 1048576: true; the input reads as it did. -/
def posAllUptoRow : OpenClaim := { program := "ytocbmjkbbbmncaa", sum := "afbc363d171d0c9e524722744953c181e9de0e3a1eaf10beaf2ac26ed800bceb", func := "oubliette/oublaw8.PosAll", spec := "posAll", apart := false, narrowed := true }
def PosAllUptoSaid : Prop := posAllUptoRow.holds Try.pinned (OpenSpec.upto posAllSpec)

/-- 'oublaw8.PosLast', WHERE WHAT IT READS IS OF BULK AT MOST 1048576: true; the input reads as it did. -/
def posLastUptoRow : OpenClaim := { program := "ytocbmjkbbbmncaa", sum := "afbc363d171d0c9e524722744953c181e9de0e3a1eaf10beaf2ac26ed800bceb", func := "oubliette/oublaw8.PosLast", spec := "posLast", apart := false, narrowed := true }
def PosLastUptoSaid : Prop := posLastUptoRow.holds Try.pinned (OpenSpec.upto posLastSpec)

end Rows
end Go.Proofs.Ytocbmjkbbbmncaa
