/- What a law is told of ints that came in. -/
import Derived.Test.YtfhpdcimdeilpaaCfg
import Derived.Deep.Slices
import Derived.ChangeOld
import Derived.ShutString
namespace Go.Proofs.Ytfhpdcimdeilpaa.st
open Go.ChangeShapes Go.WideShapes Go.ChangeAt Go.RowKit Go.Proofs.Ytfhpdcimdeilpaa.hp
set_option linter.unusedVariables false

/-- The blocks that there are. -/
def Old (w : World) : Nat → Prop := fun k => k < w.heap.size

theorem lies_fn {J : Nat → Prop} {w : World} {x : Addr} {cap : Nat} {xs : List Value} (hJ : xs ≠ [] → J x.block) (h : ∀ i, i < xs.length → ∃ u, xs[i]? = some u ∧ w.cell? (x.add i) = some u) : Lies J w (.slice (some x) xs.length cap) xs := by
  refine .inr ⟨x, cap, rfl, hJ, fun i u hu => ?_⟩
  obtain ⟨u', h1, h2⟩ := h i (List.getElem?_eq_some_iff.1 hu).1
  rw [h1] at hu
  cases hu
  exact h2

theorem cell_lt {w : World} {a : Addr} {i : Nat} {u : Value} (h : w.cell? (a.add i) = some u) : Old w a.block := by
  have := World.block_lt_of_cell? w _ h
  rwa [add_block] at this

section
variable {H : Type} {enc : TypeId × Value → H} {w : World} {base fuel : Nat} {x : DataW H × List MemPlace}

theorem open_nums {v : Value} (h : DataW.trod enc Try.prog w base (fun _ => true) true fuel 50 [v] = some x) : ∃ zs : List Int, Lies (Old w) w v (zs.map (Value.int .i64)) := by
  rcases open_ints Try.underlying50 Try.underlying3 (by kernel_rfl) h with ⟨hcs, _⟩ | ⟨a, l, c, zs, hcs, _, hl, hm, hz, _, hcell, hwz⟩
  · simp at hcs
    subst hcs
    exact ⟨[], .inl ⟨rfl, rfl⟩⟩
  · simp at hcs
    subst hcs
    simp at hz
    have hlen : ((zs.take l).map (Value.int .i64)).length = l := by simp; omega
    refine ⟨zs.take l, ?_⟩
    have : Lies (Old w) w (.slice (some a) ((zs.take l).map (Value.int .i64)).length c) ((zs.take l).map (Value.int .i64)) := by
      refine lies_fn (fun he => ?_) (fun i hi => ?_)
      · have h0 : 0 < l := by
          rw [← hlen]
          exact List.length_pos_iff.2 he
        exact cell_lt (hcell 0 (by omega))
      · rw [hlen] at hi
        have := hcell i (by omega)
        refine ⟨_, ?_, this⟩
        rw [List.getElem?_map, List.getElem?_take_of_lt hi, List.getElem?_eq_getElem (by omega), List.getD_eq_getElem?_getD, List.getElem?_eq_getElem (by omega)]
        rfl
    rw [hlen] at this
    exact this

theorem open_cap {t e : TypeId} {a : Option Addr} {l c : Nat} (ht : Try.prog.underlying t = some (.slice e)) (h : DataW.trod enc Try.prog w base (fun _ => true) true fuel t [.slice a l c] = some x) : l ≤ c ∧ c ≤ maxLen := by
  rcases Deep.open_slice ht h with ⟨hcs, _⟩ | ⟨y, l', c', m, n, D, Pl, hcs, _, hl, hm, _⟩
  · simp at hcs
    obtain ⟨_, rfl, rfl⟩ := hcs
    exact ⟨Nat.le_refl _, by unfold maxLen; omega⟩
  · simp at hcs
    obtain ⟨_, rfl, rfl⟩ := hcs
    exact ⟨hl, hm⟩

end

end Go.Proofs.Ytfhpdcimdeilpaa.st
