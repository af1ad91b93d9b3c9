/- The contract of first: what the chapter's examples fix. -/
import Derived.Test.YthmpkalalceapaaOrd
namespace Go.Proofs.Ythmpkalalceapaa.st
open Go.ChangeShapes Go.WideShapes Go.ChangeAt Go.RowKit Go.Proofs.Ythmpkalalceapaa.hp Go.Proofs.Ythmpkalalceapaa.dg
set_option linter.unusedVariables false

set_option maxHeartbeats 1000000 in
theorem first_any (w : World) : Calls Try.prog 8 #[] w fun e w' => e = .returned (.bool true) ∧ Chg no w w' := by
  have HF := from_some w 2 (by omega)
  go_enter Try.func8, Try.ntmps8
  go_wp2_with fail
  refine HF.mono ?_
  rintro e w1 ⟨rfl, s1, k1⟩
  have N1 := next_go s1 (by omega) (by omega) (by omega)
  clear HF
  go_wp2_with fail
  refine N1.mono ?_
  rintro e w2 ⟨rfl, s2, k2⟩
  have K2 : Chg no w w2 := k1.trans k2 (fun b hb => .inr (by omega))
  have hz1 := s1.lt
  have hz2 := s2.lt
  clear N1 s1 k1 k2
  go_wp2_with fail
  have s3 := s2.chg ((Chg.refl no w2).alloc (.cells #[.int .i64 2, .int .i64 0] 23)) id
  have N2 := next_go s3 (by omega) (by omega) (by omega)
  refine N2.mono ?_
  rintro e w3 ⟨rfl, s4, k4⟩
  have g3 : w3.heap[w2.heap.size]? = some (.cells #[.int .i64 2, .int .i64 0] 23 (0, 0)) := k4.heap (heap_alloc_new _ _) (by omega)
  have K3 : Chg no w w3 := (K2.alloc _).trans k4 (fun b hb => .inr (by omega))
  have hz3 := K3.size
  obtain ⟨c0, c1, c2, c3, c4, c5⟩ := s4.cells
  obtain ⟨a0, b0⟩ := row_cell (xs := [_, _]) g3 0 _ rfl
  obtain ⟨a1, b1⟩ := row_cell (xs := [_, _]) g3 1 _ rfl
  have hl3 := lt_of_block g3
  have hl4 := s4.lt
  have HN := from_none (w3.alloc (.cells #[.int .i64 2, .int .i64 (0 + 1)] 23)) 0 (by omega)
  clear N2 s3 s2 k4 g3 s4
  go_wp2_with fail
  refine HN.mono ?_
  rintro e w4 ⟨rfl, rfl⟩
  go_wp2
  go_ret
  exact ⟨rfl, K3.alloc _⟩

end Go.Proofs.Ythmpkalalceapaa.st
