/- The contract of first: what the chapter's examples fix. -/
import Derived.Test.YtlcbfdbnjohicaaRdb
import Derived.Deep.OwnRows
namespace Go.Proofs.Ytlcbfdbnjohicaa.st
open Go.ChangeShapes Go.WideShapes Go.ChangeAt Go.RowKit Go.Proofs.Ytlcbfdbnjohicaa.hp Go.Proofs.Ytlcbfdbnjohicaa.dg
set_option linter.unusedVariables false

theorem made_eq (n : Nat) : madeCells #[Value.int .u8 0] n = ((List.replicate n (0 : Int)).map (Value.int .u8)).toArray := by
  apply Array.ext'
  rw [toList_madeCells_one]
  simp

theorem made_lies (w : World) (n : Nat) : Lies (Old (w.alloc (.cells (madeCells #[Value.int .u8 0] n) 5))) (w.alloc (.cells (madeCells #[Value.int .u8 0] n) 5)) (.slice (some ⟨w.heap.size, 0, none⟩) n n) ((List.replicate n (0 : Int)).map (Value.int .u8)) := by
  have h : (w.alloc (.cells (madeCells #[Value.int .u8 0] n) 5)).heap[w.heap.size]? = some (.cells ((List.replicate n (0 : Int)).map (Value.int .u8)).toArray 5 (0, 0)) := by
    rw [← made_eq]
    exact heap_alloc_new _ _
  have := lies_block h n
  simp only [List.length_map, List.length_replicate] at this
  exact Lies.old this

theorem bytes_rep (n : Nat) : Bytes (List.replicate n 0) := by
  intro x hx
  have := (List.mem_replicate.1 hx).2
  subst this
  constructor <;> omega

theorem bks_one {w : World} {g : Nat} {i : Int} {v : Value} {d : List Int} {t : TypeId} (h : w.heap[g]? = some (.cells #[.int .i64 i, v] t (0, 0))) (hv : Lies (Old w) w v (d.map (Value.int .u8))) (hb : Bytes d) : Bks w (.slice (some ⟨g, 0, none⟩) 1 1) [⟨i, v, d⟩] := by
  refine ⟨?_, fun x hx => ?_⟩
  · refine lie_fn (xs := [⟨i, v, d⟩]) (cap := 1) (fun j hj => ?_)
    obtain rfl : j = 0 := by simpa using hj
    have e0 := (row_cell (xs := [_, _]) h 0 _ rfl).1
    have e1 := (row_cell (xs := [_, _]) h 1 _ rfl).1
    refine ⟨by simpa [Addr.add] using e0, ?_⟩
    simpa [Addr.add] using e1
  · simp at hx
    subst hx
    exact ⟨hv, hb⟩

theorem fst_a : encL 1 [] = (List.replicate 38 0, 0) := by decide +kernel
theorem fst_b : encL 2 [(4, List.replicate 37 0)] = (5 :: List.replicate 75 0, 0) := by decide +kernel

set_option maxRecDepth 100000 in
set_option maxHeartbeats 4000000 in
theorem first_any (w : World) : Calls Try.prog 8 #[] w fun e w' => e = .returned (.bool true) ∧ Chg no w w' := by
  have HE := encode_any w 1 (.slice none 0 0) [] (Bks.nil w) (by simp)
  have e1 : abs [] = [] := rfl
  rw [e1, fst_a] at HE
  have hm37 : ∀ w, (Instr.makeSlice 25 (.int .i64 37) (.int .i64 37)).run Try.prog w = .ok (.slice (some ⟨w.heap.size, 0, none⟩) 37 37) (w.alloc (.cells (madeCells #[.int .u8 0] 37) 5)) := fun w => run_make_row' (P := Try.prog) 25 5 (.int .u8 0) 1 Try.underlying25 info5 rfl .i64 .i64 37 (by omega) (by omega) w
  have hm38 : ∀ w, (Instr.makeSlice 25 (.int .i64 38) (.int .i64 38)).run Try.prog w = .ok (.slice (some ⟨w.heap.size, 0, none⟩) 38 38) (w.alloc (.cells (madeCells #[.int .u8 0] 38) 5)) := fun w => run_make_row' (P := Try.prog) 25 5 (.int .u8 0) 1 Try.underlying25 info5 rfl .i64 .i64 38 (by omega) (by omega) w
  clear e1
  go_enter Try.func8, Try.ntmps8
  go_wp2_with fail
  refine HE.mono ?_
  rintro e w1 ⟨v1, rfl, l1, k1⟩
  obtain ⟨a1, c1, rfl, _⟩ := l1.slice
  simp only [List.length_map, List.length_replicate] at l1 ⊢
  have HL1 : Hid (∀ W, Chg no w1 W → Lies (Anew w) W (.slice a1 38 c1) ((List.replicate 38 (0 : Int)).map (Value.int .u8))) := fun W k => l1.chg k (fun _ _ h => h)
  have k2 : Chg no w1 ((w1.alloc (.cells (madeCells #[.int .u8 0] 37) 5)).alloc (.cells #[.int .i64 4, .slice (some ⟨w1.heap.size, 0, none⟩) 37 37] 46)) := ((Chg.refl no w1).alloc _).alloc _
  have HB : Bks ((w1.alloc (.cells (madeCells #[.int .u8 0] 37) 5)).alloc (.cells #[.int .i64 4, .slice (some ⟨w1.heap.size, 0, none⟩) 37 37] 46)) (.slice (some ⟨w1.heap.size + 1, 0, none⟩) 1 1) [⟨4, .slice (some ⟨w1.heap.size, 0, none⟩) 37 37, List.replicate 37 0⟩] :=
    bks_one (heap2 _ _ _) (Lies.later (made_lies w1 37) ((Chg.refl no _).alloc _)) (bytes_rep 37)
  have HE2 := encode_any _ 2 _ _ HB (by simp)
  have e2 : abs [⟨4, .slice (some ⟨w1.heap.size, 0, none⟩) 37 37, List.replicate 37 0⟩] = [(4, List.replicate 37 0)] := rfl
  rw [e2, fst_b] at HE2
  have K2 : Hid (Chg no w ((w1.alloc (.cells (madeCells #[.int .u8 0] 37) 5)).alloc (.cells #[.int .i64 4, .slice (some ⟨w1.heap.size, 0, none⟩) 37 37] 46))) := k1.then k2
  clear HE l1 HB e2 k1
  go_wp2_with fail
  refine HE2.mono ?_
  rintro e w2 ⟨v2, rfl, l2, k3⟩
  obtain ⟨x2, hx2, _, h2⟩ : ∃ x2, (∃ c2, v2 = .slice (some x2) 76 c2) ∧ True ∧ w2.cell? x2 = some (.int .u8 5) := by
    rcases l2 with ⟨_, h⟩ | ⟨x2, c2, rfl, _, h⟩
    · simp at h
    · refine ⟨x2, ⟨c2, by simp⟩, trivial, ?_⟩
      have := h 0 (.int .u8 5) rfl
      simpa [Addr.add] using this
  obtain ⟨c2, rfl⟩ := hx2
  have K3 : Hid (Chg no w w2) := K2.out.then k3
  have hl1 := HL1.out w2 (k2.then k3)
  have HQ : Hid (∀ W, W = w2.alloc (.cells (madeCells #[.int .u8 0] 38) 5) → Calls Try.prog 13 #[.slice a1 38 c1, .slice (some ⟨w2.heap.size, 0, none⟩) 38 38] W fun e w' => e = .returned (.bool true) ∧ w' = W) := by
    rintro W rfl
    have := bytes_any (hl1.chg ((Chg.refl no w2).alloc (.cells (madeCells #[.int .u8 0] 38) 5)) (fun _ _ h => h)) (made_lies w2 38) (bytes_rep 38) (bytes_rep 38)
    rwa [decide_eq_true rfl] at this
  have h2' : ∀ (o : Obj), (w2.alloc o).cell? x2 = some (.int .u8 5) := fun o => ((Chg.refl no w2).alloc o).cell h2 id
  have HLn := fun W => length_any W 0
  have el : lenL 0 = 0 := by decide
  simp only [el] at HLn
  clear HE2 l2 k2 k3 hl1 HL1 K2 el
  go_wp2_with fail
  refine (HQ.out _ rfl).mono ?_
  rintro e w3 ⟨rfl, rfl⟩
  have h3 := h2' (.cells (madeCells #[.int .u8 0] 38) 5)
  have HLw := HLn (w2.alloc (.cells (madeCells #[.int .u8 0] 38) 5))
  go_wp2_with fail
  refine HLw.mono ?_
  rintro e w4 ⟨rfl, rfl⟩
  go_wp2
  go_ret
  exact ⟨rfl, K3.out.alloc _⟩

end Go.Proofs.Ytlcbfdbnjohicaa.st
