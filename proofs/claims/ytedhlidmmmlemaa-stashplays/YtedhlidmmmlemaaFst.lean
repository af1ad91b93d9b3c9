/- The contract of first: what the chapter's examples fix. -/
import Derived.Test.YtedhlidmmmlemaaRma
import Derived.Deep.OwnRows
namespace Go.Proofs.Ytedhlidmmmlemaa.st
open Go.ChangeShapes Go.WideShapes Go.ChangeAt Go.RowKit Go.Proofs.Ytedhlidmmmlemaa.hp
set_option linter.unusedVariables false

theorem made_eq (n : Nat) : madeCells #[Value.int .u8 0] n = ((List.replicate n (0 : Int)).map (Value.int .u8)).toArray := by
  apply Array.ext'
  rw [toList_madeCells_one]
  simp

theorem made_lies (w : World) (n : Nat) : Lies (Old (w.alloc (.cells (madeCells #[Value.int .u8 0] n) 5))) (w.alloc (.cells (madeCells #[Value.int .u8 0] n) 5)) (.slice (some ⟨w.heap.size, 0, none⟩) n n) ((List.replicate n (0 : Int)).map (Value.int .u8)) := by
  have h : (w.alloc (.cells (madeCells #[Value.int .u8 0] n) 5)).heap[w.heap.size]? = some (.cells ((List.replicate n (0 : Int)).map (Value.int .u8)).toArray 5 (0, 0)) := by
    rw [← made_eq]
    exact heap_alloc_new _ _
  have := lies_block h n
  simp only [List.length_map, List.length_replicate] at this
  exact Lies.old this

theorem bytes_rep (n : Nat) : Bytes (List.replicate n 0) := by
  intro x hx
  have := (List.mem_replicate.1 hx).2
  subst this
  constructor <;> omega

theorem bks_one {w : World} {g : Nat} {i : Int} {v : Value} {d : List Int} {t : TypeId} (h : w.heap[g]? = some (.cells #[.int .i64 i, v] t (0, 0))) (hv : Lies (Old w) w v (d.map (Value.int .u8))) (hb : Bytes d) : Bks w (.slice (some ⟨g, 0, none⟩) 1 1) [⟨i, v, d⟩] := by
  refine ⟨?_, fun x hx => ?_⟩
  · refine lie_fn (xs := [⟨i, v, d⟩]) (cap := 1) (fun j hj => ?_)
    obtain rfl : j = 0 := by simpa using hj
    have e0 := (row_cell (xs := [_, _]) h 0 _ rfl).1
    have e1 := (row_cell (xs := [_, _]) h 1 _ rfl).1
    refine ⟨by simpa [Addr.add] using e0, ?_⟩
    simpa [Addr.add] using e1
  · simp at hx
    subst hx
    exact ⟨hv, hb⟩

end Go.Proofs.Ytedhlidmmmlemaa.st
