/- Nonces as keys: the two key types. -/
import Derived.Test.YtmchjnmmeankgaaArgs
import Derived.Test.YtmchjnmmeankgaaTab
import Derived.DeepKeys4
namespace Go.Proofs.Ytmchjnmmeankgaa.st
open Go.ChangeShapes Go.WideShapes Go.ChangeAt Go.RowKit Go.Proofs.Ytmchjnmmeankgaa.hp Go.Proofs.Ytmchjnmmeankgaa.dg
open Go.Maps (Keyed)
set_option linter.unusedVariables false

theorem laidOutP : laidOutB Try.prog = true := by kernel_rfl
theorem wide40 : (match Try.prog.underlying 40 with | some (.array _ _) | some (.struct _) => true | _ => false) = true := by rw [Try.underlying40]
theorem wide46 : (match Try.prog.underlying 46 with | some (.array _ _) | some (.struct _) => true | _ => false) = true := by rw [Try.underlying46]
theorem key40 : Keyed Try.prog 40 := Keyed.of_law (deep_law_laid laidOutP (m := 3) (by omega) (of_decide_eq_true (by kernel_rfl)) (by kernel_rfl) wide40)
theorem key46 : Keyed Try.prog 46 := Keyed.of_law (deep_law_laid laidOutP (m := 3) (by omega) (of_decide_eq_true (by kernel_rfl)) (by kernel_rfl) wide46)
theorem deep40 : Try.prog.keyTypeAt (Try.prog.types.size + 1) 40 = true := by kernel_rfl
theorem deep46 : Try.prog.keyTypeAt (Try.prog.types.size + 1) 46 = true := by kernel_rfl
theorem cells46 : Try.prog.cellsOf 46 = 2 := by kernel_rfl

/-- Numbers that an int holds. -/
def Fits (n : Int × Int) : Prop := (Lit.int .i64 n.1).wf = true ∧ (Lit.int .i64 n.2).wf = true

theorem shut_rnonce {H : Type} {enc : TypeId × Value → H} {w : World} {base : Nat} {spare : Nat → Bool} {held : Bool} {a b : Int} (wa : (Lit.int .i64 a).wf = true) (wb : (Lit.int .i64 b).wf = true) : DataW.Trod enc Try.prog w base spare held 46 (nv a b) (.agg [.lit (.int .i64 a), .lit (.int .i64 b)]) [] :=
  Joins.shut_agg2 (y0 := (.lit (.int .i64 a), [])) (y1 := (.lit (.int .i64 b), [])) Try.underlying46 (by kernel_rfl) cells46 ⟨1, by simp [DataW.trod, Try.underlying3, wa]⟩ ⟨1, by simp [DataW.trod, Try.underlying3, wb]⟩

theorem keyOk40 {n : Int × Int} (h : Fits n) (w : World) : KeyOk Try.prog 40 n := by
  have t := shut_nonce (H := Nat) (enc := fun _ => 0) (w := w) (base := 0) (spare := fun _ => true) (held := true) h.1 h.2
  exact ⟨_, (keyOf_asKey (P := Try.prog) (k := 40) deep40 (by rw [Try.underlying40]) (by simp [Value.formed, Try.underlying40, cells23]) t).1⟩

theorem keyOk46 {n : Int × Int} (h : Fits n) (w : World) : KeyOk Try.prog 46 n := by
  have t := shut_rnonce (H := Nat) (enc := fun _ => 0) (w := w) (base := 0) (spare := fun _ => true) (held := true) h.1 h.2
  exact ⟨_, (keyOf_asKey (P := Try.prog) (k := 46) deep46 (by rw [Try.underlying46]) (by simp [Value.formed, Try.underlying46, cells46]) t).1⟩

end Go.Proofs.Ytmchjnmmeankgaa.st
