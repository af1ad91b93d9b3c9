/- Contracts of Next, and of the document's. -/
import Derived.Test.YthmpkalalceapaaSrc
namespace Go.Proofs.Ythmpkalalceapaa.st
open Go.ChangeShapes Go.WideShapes Go.ChangeAt Go.RowKit Go.Proofs.Ythmpkalalceapaa.hp Go.Proofs.Ythmpkalalceapaa.dg
set_option linter.unusedVariables false

theorem Src.set {w : World} {p : Nat} {t : TypeId} {g c m : Int} (h : Src w p t g c m) (c' : Int) : Src (w.setCell ⟨p, 1, none⟩ (.int .i64 c')) p t g c' m := by
  have := row_set (xs := [_, _, _]) h 1 (.int .i64 c')
  simpa [Src] using this

theorem next_end {w : World} {p : Nat} {g m : Int} (h : Src w p 47 g m m) (h0 : 0 ≤ m) (h2 : m ≤ 1099511627776) :
    Calls Try.prog 20 #[.pointer (some ⟨p, 0, none⟩)] w fun e w' => e = .returned (.tuple #[nv 0 0, .int .i64 11]) ∧ Chg no w w' := by
  have hlt := h.lt
  have HL := left_any (h.chg ((Chg.refl no w).alloc (.cells #[.int .i64 0, .int .i64 0] 23)) id) h0 (by omega) h2
  rw [Int.sub_self] at HL
  clear h
  go_enter Try.func20, Try.ntmps20
  go_wp2_with fail
  refine HL.mono ?_
  rintro e w1 ⟨rfl, k1⟩
  have g0 : w1.heap[w.heap.size]? = some (.cells #[.int .i64 0, .int .i64 0] 23 (0, 0)) := k1.heap (heap_alloc_new _ _) id
  obtain ⟨a0, b0⟩ := row_cell (xs := [_, _]) g0 0 _ rfl
  obtain ⟨a1, b1⟩ := row_cell (xs := [_, _]) g0 1 _ rfl
  have K : Chg no w w1 := ((Chg.refl no w).alloc _).then k1
  clear HL k1 g0
  go_wp2
  have hres : Try.f20.results = #[.cell 2 23, .tmp 3] := by kernel_rfl
  refine bodyPost_ret (v := .tuple #[nv 0 0, .int .i64 11]) ?_ rfl ⟨rfl, ?_⟩
  · simp only [results, hres]
    go_simp
  · have k2 := K.setCell ⟨w.heap.size, 0, none⟩ (.int .i64 0) (.inr (by simp))
    exact k2.setCell ⟨w.heap.size, 1, none⟩ (.int .i64 0) (.inr (by simp))

theorem next_go {w : World} {p : Nat} {g c m : Int} (h : Src w p 47 g c m) (h0 : 0 ≤ c) (h1 : c < m) (h2 : m ≤ 1099511627776) :
    Calls Try.prog 20 #[.pointer (some ⟨p, 0, none⟩)] w fun e w' => e = .returned (.tuple #[nv g c, .int .i64 0]) ∧ Src w' p 47 g (c + 1) m ∧ Chg (fun k => k = p) w w' := by
  have hlt := h.lt
  have HL := left_any (h.chg ((Chg.refl no w).alloc (.cells #[.int .i64 0, .int .i64 0] 23)) id) h0 (by omega) h2
  have hD : (m - c == 0) = false := by simp; omega
  obtain ⟨D, hDD⟩ : ∃ D, m - c = D := ⟨_, rfl⟩
  rw [hDD] at HL hD
  go_enter Try.func20, Try.ntmps20
  go_wp2_with fail
  refine HL.mono ?_
  rintro e w1 ⟨rfl, k1⟩
  have g0 : w1.heap[w.heap.size]? = some (.cells #[.int .i64 0, .int .i64 0] 23 (0, 0)) := k1.heap (heap_alloc_new _ _) id
  obtain ⟨a0, b0⟩ := row_cell (xs := [_, _]) g0 0 _ rfl
  obtain ⟨a1, b1⟩ := row_cell (xs := [_, _]) g0 1 _ rfl
  have K : Chg no w w1 := ((Chg.refl no w).alloc _).then k1
  have hS := h.chg K id
  have hz := K.size
  have hz1 := lt_of_block g0
  obtain ⟨c0, c1, c2, c3, c4, c5⟩ := hS.cells
  have HS : Hid (Src w1 p 47 g c m) := hS
  have HG : Hid (w1.heap[w.heap.size]? = some (.cells #[.int .i64 0, .int .i64 0] 23 (0, 0))) := g0
  have hp1 : p < w1.heap.size := by omega
  have hp2 : p ≠ w.heap.size := by omega
  clear HL k1 g0 h hDD hS
  go_wp2
  have hres : Try.f20.results = #[.cell 2 23, .tmp 3] := by kernel_rfl
  refine bodyPost_ret (v := .tuple #[nv g c, .int .i64 0]) ?_ rfl ⟨rfl, ?_, ?_⟩
  · simp only [results, hres]
    go_simp
  · refine (HS.out.set (c + 1)).chg (F := fun k => k = w.heap.size) ((((Chg.refl (fun k => k = w.heap.size) _).setCell ⟨w.heap.size, 0, none⟩ (.int .i64 g) (.inl rfl)).setCell ⟨w.heap.size, 1, none⟩ (.int .i64 c) (.inl rfl)).alloc _) hp2
  · exact ((((K.of_no (fun k => k = p)).setCell ⟨p, 1, none⟩ (.int .i64 (c + 1)) (.inl rfl)).setCell ⟨w.heap.size, 0, none⟩ (.int .i64 g) (.inr (Nat.le_refl _))).setCell ⟨w.heap.size, 1, none⟩ (.int .i64 c) (.inr (Nat.le_refl _))).alloc _

theorem rnext_end {w : World} {p : Nat} {g m : Int} (h : Src w p 42 g m m) :
    Calls Try.prog 21 #[.pointer (some ⟨p, 0, none⟩)] w fun e w' => e = .returned (.tuple #[nv 0 0, .int .i64 11]) ∧ Chg no w w' := by
  have hlt := h.lt
  obtain ⟨c0, c1, c2, c3, c4, c5⟩ := h.cells
  clear h
  go_enter Try.func21, Try.ntmps21
  go_wp2_with fail
  go_quiet (fail)
  go_wp2
  have hres : Try.f21.results = #[.cell 2 29, .tmp 3] := by kernel_rfl
  refine bodyPost_ret (v := .tuple #[nv 0 0, .int .i64 11]) ?_ rfl ⟨rfl, ?_⟩
  · simp only [results, hres]
    go_simp
  · exact ((((Chg.refl no w).alloc _).drewN _).setCell ⟨w.heap.size, 0, none⟩ (.int .i64 0) (.inr (Nat.le_refl _))).setCell ⟨w.heap.size, 1, none⟩ (.int .i64 0) (.inr (Nat.le_refl _))

theorem rnext_go {w : World} {p : Nat} {g c m : Int} (h : Src w p 42 g c m) (h0 : 0 ≤ c) (h1 : c < m) (h2 : m ≤ 1099511627776) :
    Calls Try.prog 21 #[.pointer (some ⟨p, 0, none⟩)] w fun e w' => e = .returned (.tuple #[nv g c, .int .i64 0]) ∧ Src w' p 42 g (c + 1) m ∧ Chg (fun k => k = p) w w' := by
  have hlt := h.lt
  obtain ⟨c0, c1, c2, c3, c4, c5⟩ := h.cells
  have hD : (c == m) = false := by simp; omega
  have HS : Hid (Src w p 42 g c m) := h
  have hp2 : p ≠ w.heap.size := by omega
  clear h
  go_enter Try.func21, Try.ntmps21
  go_wp2_with fail
  go_quiet (fail)
  go_wp2
  have hres : Try.f21.results = #[.cell 2 29, .tmp 3] := by kernel_rfl
  refine bodyPost_ret (v := .tuple #[nv g c, .int .i64 0]) ?_ rfl ⟨rfl, ?_, ?_⟩
  · simp only [results, hres]
    go_simp
  · refine ((HS.out.chg (((Chg.refl no w).alloc _).drewN _) id).set (c + 1)).chg (F := fun k => k = w.heap.size) ((((Chg.refl (fun k => k = w.heap.size) _).setCell ⟨w.heap.size, 0, none⟩ (.int .i64 g) (.inl rfl)).setCell ⟨w.heap.size, 1, none⟩ (.int .i64 c) (.inl rfl)).alloc _) hp2
  · exact ((((((Chg.refl (fun k => k = p) w).alloc _).drewN _).setCell ⟨p, 1, none⟩ (.int .i64 (c + 1)) (.inl rfl)).setCell ⟨w.heap.size, 0, none⟩ (.int .i64 g) (.inr (Nat.le_refl _))).setCell ⟨w.heap.size, 1, none⟩ (.int .i64 c) (.inr (Nat.le_refl _))).alloc _

end Go.Proofs.Ythmpkalalceapaa.st
