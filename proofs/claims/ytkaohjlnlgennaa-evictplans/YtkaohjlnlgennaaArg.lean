/- What a law is told of items that came in. -/
import Derived.Test.YtkaohjlnlgennaaFir
import Derived.Deep.SlicePairs
import Derived.Lib.SmallJoins
namespace Go.Proofs.Ytkaohjlnlgennaa.st
open Go.ChangeShapes Go.WideShapes Go.ChangeAt Go.RowKit Go.Proofs.Ytkaohjlnlgennaa.hp Go.Proofs.Ytkaohjlnlgennaa.tm Go.Proofs.Ytkaohjlnlgennaa.ev
set_option linter.unusedVariables false

theorem lie_fn2 {w : World} {y : Addr} {len cap : Nat} {z : Nat → Int × Int} (h : ∀ i, i < len → w.cell? (y.add (i * 2)) = some (.int .i64 (z i).1) ∧ w.cell? (y.add (i * 2 + 1)) = some (.int .i64 (z i).2)) : Lie (Old w) w (.slice (some y) len cap) len (((List.range len).map z).flatMap f2) := by
  refine .inr ⟨y, cap, rfl, fun hne => ?_, fun i u hu => ?_⟩
  · have h0 : 0 < len := by
      rcases Nat.eq_zero_or_pos len with e | e
      · subst e
        exact absurd rfl hne
      · exact e
    exact cell_lt (h 0 h0).1
  · have hi : i < len * 2 := by
      have := (List.getElem?_eq_some_iff.1 hu).1
      rw [flat_length len2] at this
      simpa using this
    have hq : i / 2 < len := by omega
    have hz : ((List.range len).map z)[i / 2]? = some (z (i / 2)) := by rw [List.getElem?_map, List.getElem?_range hq]; rfl
    have hg := flat_get len2 _ (i / 2) (i % 2) (by omega) _ hz
    have he : i / 2 * 2 + i % 2 = i := by omega
    rw [he, hu] at hg
    obtain ⟨h0, h1⟩ := h (i / 2) hq
    have hr : i % 2 = 0 ∨ i % 2 = 1 := by omega
    rcases hr with hr | hr
    · rw [hr] at hg he
      simp [f2] at hg
      rw [hg, ← h0]
      congr 2
      omega
    · rw [hr] at hg he
      simp [f2] at hg
      rw [hg, ← h1]
      congr 2
      omega


section
variable {H : Type} {enc : TypeId × Value → H} {w : World} {base fuel : Nat} {x : DataW H × List MemPlace}

/-- Places that came in. -/
theorem open_places {a : Option Addr} {len cap : Nat} (h : DataW.trod enc Try.prog w base (fun _ => true) true fuel 23 [.slice a len cap] = some x) : ∃ ps : List (Int × Int), ps.length = len ∧ Lie (Old w) w (.slice a len cap) ps.length (ps.flatMap f2) := by
  rcases Deep.open_slice_pairs Try.underlying23 Try.underlying35 (by kernel_rfl) rfl rfl (by kernel_rfl) (by kernel_rfl) h with ⟨hcs, _⟩ | ⟨y, l, c, mm, nn, V0, V1, D0, D1, P0, P1, hcs, _, hl, hm, hmm, _, hall⟩
  · simp at hcs
    obtain ⟨rfl, rfl, rfl⟩ := hcs
    exact ⟨[], rfl, .inl ⟨rfl, rfl, rfl⟩⟩
  · simp at hcs
    obtain ⟨rfl, rfl, rfl⟩ := hcs
    have each : ∀ i, i < len → ∃ z : Int × Int, w.cell? (y.add (i * 2)) = some (.int .i64 z.1) ∧ w.cell? (y.add (i * 2 + 1)) = some (.int .i64 z.2) := by
      intro i hi
      obtain ⟨e0, e1, t0, t1⟩ := hall i (by rw [hmm]; split <;> omega)
      obtain ⟨n0, g0, _, f0⟩ := DataW.trod_int Try.underlying3 t0
      obtain ⟨n1, g1, _, f1⟩ := DataW.trod_int Try.underlying3 t1
      simp at g0 g1
      exact ⟨(n0, n1), by rw [e0, g0], by rw [e1, g1]⟩
    obtain ⟨z, hz⟩ := Deep.choose_lt each
    have := lie_fn2 (cap := cap) hz
    refine ⟨(List.range len).map z, by simp, ?_⟩
    rw [List.length_map, List.length_range]
    exact this


end

end Go.Proofs.Ytkaohjlnlgennaa.st
