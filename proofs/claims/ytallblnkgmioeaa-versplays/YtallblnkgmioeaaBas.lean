/- Rows of ints in new memory. -/
import Derived.Test.YtallblnkgmioeaaRows
import Derived.Test.YtallblnkgmioeaaHeap
import Derived.Test.YtallblnkgmioeaaApp
import Derived.ProofKit
import Derived.OpenShut
import Derived.WalkLawsBesides
import Derived.WalkSpells
import Derived.Deep.QuietTactic
import Derived.BigQuiet
import Derived.RegionTactic
import Derived.BigRegion
import Derived.Deep.RegionWith
import Derived.ChangeAlike
import Derived.Handy
import Derived.Laws.BytesArg
import Derived.Laws.AppendOwnNone
import Derived.Laws.BitsAllLaws
import Derived.Laws.OwnMore
import Derived.Deep.Cut
import Derived.Deep.CutRange
namespace Go.Proofs.Ytallblnkgmioeaa.st
open Go.ChangeShapes Go.WideShapes Go.ChangeAt Go.RowKit Go.Proofs.Ytallblnkgmioeaa.hp
set_option linter.unusedVariables false
set_option linter.unusedSimpArgs false

theorem info3 : (Try.prog.info? 3).map (fun i => (i.zero, i.size, i.bytes)) = some (some (.int .i64 0), 1, 8) := by kernel_rfl
theorem info5 : (Try.prog.info? 5).map (fun i => (i.zero, i.size, i.bytes)) = some (some (.int .u8 0), 1, 1) := by kernel_rfl

/-- Ints in new memory, of the caller's own. -/
def New (w : World) (zs : List Int) (v : Value) (w' : World) : Prop := w'.ownsRow w.heap.size 3 1 v zs.length (zs.map (Value.int .i64)) ∧ Chg no w w'

theorem New.lies {w w' : World} {zs : List Int} {v : Value} (h : New w zs v w') : Lies (fun k => w.heap.size ≤ k ∧ k < w'.heap.size) w' v (zs.map (Value.int .i64)) :=
  Lies.of_owns h.1 h.1.lt

theorem New.shape {w w' : World} {zs : List Int} {v : Value} (h : New w zs v w') : ∃ a c, v = .slice a zs.length c := owns_shape h.1

theorem New.chg {w w1 w2 : World} {zs : List Int} {v : Value} (h : New w zs v w1) (k : Chg no w1 w2) : New w zs v w2 := ⟨k.owns h.1 (fun _ _ h => h), h.2.then k⟩

theorem New.drewN {w w1 : World} {zs : List Int} {v : Value} (h : New w zs v w1) (n : Nat) : New w zs v (w1.drewN n) := h.chg ((Chg.refl no w1).drewN n)

theorem New.nil (w : World) : New w [] (.slice none 0 0) w := ⟨World.ownsRow_nil _ _ _ _, Chg.refl _ _⟩

/-- A value of a row of the call's own. -/
theorem owns_at {w : World} {base n c k : Nat} {e : TypeId} {a : Option Addr} {xs : List Value} {u : Value} (h : w.ownsRow base e 1 (.slice a n c) n xs) (hz : xs[k]? = some u) :
    ∃ g, a = some ⟨g, 0, none⟩ ∧ base ≤ g ∧ w.cell? ⟨g, k, none⟩ = some u ∧ w.frozen? ⟨g, k, none⟩ = false := by
  have hk : k < xs.length := (List.getElem?_eq_some_iff.1 hz).1
  have hl := h.1
  rcases h.2 with ⟨hv, hn⟩ | ⟨g, cap, cur, hv, hb, _⟩
  · omega
  · cases hv
    refine ⟨g, rfl, hb, ?_, h.frozenAt k⟩
    rw [h.cellAt k (by omega), hz]

theorem lies_at {J : Nat → Prop} {w : World} {a : Option Addr} {l c : Nat} {zs : List Int} (h : Lies J w (.slice a l c) (zs.map (Value.int .i64))) (k : Nat) (hk : k < zs.length) : ∃ y, a = some y ∧ w.cell? (y.add k) = some (.int .i64 (zs.getD k 0)) := by
  obtain ⟨a', c', hv, hc⟩ := h.slice
  cases hv
  obtain ⟨y, hy, _, hy2⟩ := hc k (.int .i64 (zs.getD k 0)) (by rw [List.getElem?_map, List.getD_eq_getElem?_getD, List.getElem?_eq_getElem hk]; rfl)
  exact ⟨y, hy, hy2⟩

/-- A number set. -/
theorem New.set {w w' : World} {g n c k : Nat} {zs : List Int} (h : New w zs (.slice (some ⟨g, 0, none⟩) n c) w') (u : Int) : New w (zs.set k u) (.slice (some ⟨g, 0, none⟩) n c) (w'.setCell ⟨g, k, none⟩ (.int .i64 u)) := by
  have hn : n = zs.length := by
    obtain ⟨a, c', hv⟩ := h.shape
    cases hv
    rfl
  subst hn
  have := h.1.stored k (.int .i64 u)
  refine ⟨?_, h.2.setCell _ _ (.inr (h.1.lt g rfl).1)⟩
  rw [List.length_set, List.map_set]
  exact this.1

/-- What an append to a row of the call's own leaves. -/
theorem New.grew {w w1 w2 : World} {v v' : Value} {zs ys ts : List Int} (h : New w zs v w1) (G : Grew 3 w1 w2 v v' zs.length (zs.map (Value.int .i64)) (ys.map (Value.int .i64))) (ht : zs ++ ys = ts) : New w ts v' w2 := by
  subst ht
  have hz := h.2.size
  have ho := G.own
  rw [← List.map_append, List.length_map] at ho
  refine ⟨⟨by simp, ?_⟩, h.2.grown G.grown (fun k hk => .inr (h.1.lt k hk).1)⟩
  rcases ho.2 with hh | ⟨g, cap, cur, hv, hb, rest⟩
  · exact .inl (by simpa using hh)
  · refine .inr ⟨g, cap, cur, by simpa using hv, ?_, by simpa using rest⟩
    rcases G.place g (by rw [hv]; rfl) with hp | hp
    · exact (h.1.lt g hp).1
    · omega

/-- A row just built. -/
theorem New.built (w w1 : World) (k : Chg no w w1) (zs : List Int) (hm : zs.length ≤ maxLen) : New w zs (.slice (some ⟨w1.heap.size, 0, none⟩) zs.length zs.length) (w1.alloc (.cells (zs.map (Value.int .i64)).toArray 3)) := by
  have := k.size
  refine ⟨⟨by simp, .inr ⟨_, zs.length, _, rfl, by omega, heap_alloc_new w1 _, by omega, hm, by simp, ?_⟩⟩, k.alloc _⟩
  rw [List.take_of_length_le (by simp)]

theorem lies_block {w : World} {g : Nat} {zs : List Value} {t : TypeId} (h : w.heap[g]? = some (.cells zs.toArray t (0, 0))) (c : Nat) : Lies (fun k => k = g) w (.slice (some ⟨g, 0, none⟩) zs.length c) zs :=
  .inr ⟨_, _, rfl, fun _ => rfl, fun i u hu => by rw [Addr.add_lit, Nat.zero_add]; exact (row_cell h i u hu).1⟩


end Go.Proofs.Ytallblnkgmioeaa.st
