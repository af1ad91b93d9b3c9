/- A configuration that came in. -/
import Derived.Test.YtfhpdcimdeilpaaLw
import Derived.Lib.SmallJoins
namespace Go.Proofs.Ytfhpdcimdeilpaa.st
open Go.ChangeShapes Go.WideShapes Go.ChangeAt Go.RowKit Go.Proofs.Ytfhpdcimdeilpaa.hp
set_option linter.unusedVariables false
set_option linter.unusedSimpArgs false

theorem cells24 : Try.prog.cellsOf 24 = 11 := by kernel_rfl
theorem cells3 : Try.prog.cellsOf 3 = 1 := by kernel_rfl
theorem cells22 : Try.prog.cellsOf 22 = 1 := by kernel_rfl

theorem array11 {α : Type} {cs : Array α} (h : cs.size = 11) : ∃ c0 c1 c2 c3 c4 c5 c6 c7 c8 c9 c10, cs = #[c0, c1, c2, c3, c4, c5, c6, c7, c8, c9, c10] := by
  obtain ⟨l⟩ := cs
  match l, h with
  | [c0, c1, c2, c3, c4, c5, c6, c7, c8, c9, c10], _ => exact ⟨c0, c1, c2, c3, c4, c5, c6, c7, c8, c9, c10, rfl⟩

section
variable {H : Type} {enc : TypeId × Value → H} {w : World} {base n : Nat}

theorem one_int {c : Value} {xs : List (DataW H × List MemPlace)} {i : Nat} (hi : i < xs.length) (h : DataW.trod enc Try.prog w base (fun _ => true) true n 3 [c] = xs[i]?) : ∃ a, c = .int .i64 a := by
  rw [List.getElem?_eq_getElem hi] at h
  obtain ⟨a, e0, _, _⟩ := DataW.trod_int Try.underlying3 h
  simp at e0
  exact ⟨a, e0⟩

set_option maxHeartbeats 4000000 in
theorem open_config {r : Reach} {b0 : Nat} {v : Value} {d : DataW H} {p : List MemPlace} (hv : Value.okWide Try.prog w r b0 24 v) (h : DataW.Trod enc Try.prog w base (fun _ => true) true 24 v d p) :
    ∃ (I : Ic) (a : Option Addr) (len cap : Nat) (A : Nat → Option Addr) (C : Nat → Nat) (Z : Nat → List Int), v = cfgI I (.slice a len cap) ∧ len ≤ cap ∧ cap ≤ maxLen ∧ Rws w a len A C Z := by
  obtain ⟨cs, rfl, hsz⟩ := okWide_struct Try.underlying24 hv
  obtain ⟨c0, c1, c2, c3, c4, c5, c6, c7, c8, c9, c10, rfl⟩ := array11 (hsz.trans cells24)
  obtain ⟨fuel, hf⟩ := h
  obtain ⟨xs, n, _, _, _, hlen, hg⟩ := DataW.trod_struct Try.underlying24 hf
  have hlen : xs.length = 11 := hlen
  have g0 := hg 0 _ rfl
  simp only [cells3, Value.cells, List.drop_succ_cons, List.drop_zero, List.take_succ_cons, List.take_zero] at g0
  obtain ⟨i0, rfl⟩ := one_int (by omega) g0
  have g1 := hg 1 _ rfl
  simp only [cells3, Value.cells, List.drop_succ_cons, List.drop_zero, List.take_succ_cons, List.take_zero] at g1
  obtain ⟨i1, rfl⟩ := one_int (by omega) g1
  have g2 := hg 2 _ rfl
  simp only [cells3, Value.cells, List.drop_succ_cons, List.drop_zero, List.take_succ_cons, List.take_zero] at g2
  obtain ⟨i2, rfl⟩ := one_int (by omega) g2
  have g3 := hg 3 _ rfl
  simp only [cells3, Value.cells, List.drop_succ_cons, List.drop_zero, List.take_succ_cons, List.take_zero] at g3
  obtain ⟨i3, rfl⟩ := one_int (by omega) g3
  have g4 := hg 4 _ rfl
  simp only [cells3, Value.cells, List.drop_succ_cons, List.drop_zero, List.take_succ_cons, List.take_zero] at g4
  obtain ⟨i4, rfl⟩ := one_int (by omega) g4
  have g5 := hg 5 _ rfl
  simp only [cells3, Value.cells, List.drop_succ_cons, List.drop_zero, List.take_succ_cons, List.take_zero] at g5
  obtain ⟨i5, rfl⟩ := one_int (by omega) g5
  have g6 := hg 6 _ rfl
  simp only [cells3, Value.cells, List.drop_succ_cons, List.drop_zero, List.take_succ_cons, List.take_zero] at g6
  obtain ⟨i6, rfl⟩ := one_int (by omega) g6
  have g7 := hg 7 _ rfl
  simp only [cells3, Value.cells, List.drop_succ_cons, List.drop_zero, List.take_succ_cons, List.take_zero] at g7
  obtain ⟨i7, rfl⟩ := one_int (by omega) g7
  have g8 := hg 8 _ rfl
  simp only [cells3, Value.cells, List.drop_succ_cons, List.drop_zero, List.take_succ_cons, List.take_zero] at g8
  obtain ⟨i8, rfl⟩ := one_int (by omega) g8
  have g9 := hg 9 _ rfl
  simp only [cells3, Value.cells, List.drop_succ_cons, List.drop_zero, List.take_succ_cons, List.take_zero] at g9
  obtain ⟨i9, rfl⟩ := one_int (by omega) g9
  have g0' := hg 10 _ rfl
  rw [List.getElem?_eq_getElem (by omega)] at g0'
  have g : DataW.trod enc Try.prog w base (fun _ => true) true n 22 [c10] = some (xs[10]'(by omega)) := by
    have k : List.take (Try.prog.cellsOf 22) [c10] = [c10] := by rw [cells22]; rfl
    rw [← k]
    exact g0'
  obtain ⟨a, l, c, e⟩ := Joins.slice_form Try.underlying22 g
  obtain rfl : c10 = .slice a l c := by simpa using e
  obtain ⟨A, C, Z, R⟩ := open_rows g
  obtain ⟨h1, h2⟩ := open_cap Try.underlying22 g
  exact ⟨⟨i0, i1, i2, i3, i4, i5, i6, i7, i8, i9⟩, a, l, c, A, C, Z, rfl, h1, h2, R⟩
end

end Go.Proofs.Ytfhpdcimdeilpaa.st
