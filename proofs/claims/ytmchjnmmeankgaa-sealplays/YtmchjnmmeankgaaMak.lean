/- Contracts of New and of the document's NewOracle; what is sealed is opened. -/
import Derived.Test.YtmchjnmmeankgaaRop
import Derived.Test.YtmchjnmmeankgaaOrd
namespace Go.Proofs.Ytmchjnmmeankgaa.st
open Go.ChangeShapes Go.WideShapes Go.ChangeAt Go.RowKit Go.Proofs.Ytmchjnmmeankgaa.hp Go.Proofs.Ytmchjnmmeankgaa.dg
set_option linter.unusedVariables false

theorem new_bad (w : World) (v : Option Addr) (l : Int) (hl : l < 1 ∨ 4000 < l) : Calls Try.prog 10 #[.pointer v, .int .i64 l] w fun e w' => e = .returned (.tuple #[.pointer none, .int .i64 1]) ∧ w' = w := by
  have hc : l < 1 ∨ (1 ≤ l ∧ 4000 < l) := by omega
  clear hl
  rcases hc with h1 | ⟨h1, h2⟩
  all_goals
    go_enter Try.func10, Try.ntmps10
    go_wp2
    go_ret2
    exact ⟨rfl, rfl⟩

theorem rnew_bad (w : World) (v : Option Addr) (l : Int) (hl : l < 1 ∨ 4000 < l) : Calls Try.prog 12 #[.pointer v, .int .i64 l] w fun e w' => e = .returned (.tuple #[.pointer none, .int .i64 1]) ∧ w' = w := by
  have hc : l < 1 ∨ (1 ≤ l ∧ 4000 < l) := by omega
  clear hl
  rcases hc with h1 | ⟨h1, h2⟩
  all_goals
    go_enter Try.func12, Try.ntmps12
    go_wp2
    go_ret2
    exact ⟨rfl, rfl⟩

/-- An oracle without pads. -/
def OS.fresh (zs : List Int) (L : Nat) : OS := ⟨zs, L, [], []⟩

theorem new_ok {w : World} {q : Nat} {tv : Value} {zs : List Int} (h : Tpe w q tv 0 zs) (L : Nat) (h1 : 1 ≤ L) (h2 : L ≤ 4000) : Calls Try.prog 10 #[.pointer (some ⟨q, 0, none⟩), .int .i64 L] w fun e w' => ∃ p, e = .returned (.tuple #[.pointer (some ⟨p, 0, none⟩), .int .i64 0]) ∧
    Orc p q (OS.fresh zs L) w' (fun k => k = q ∨ tv.ownBlock = some k ∨ (w.heap.size ≤ k ∧ k < w'.heap.size)) ∧ Chg no w w' := by
  have i1 : (1 : Int) ≤ L := by omega
  have i2 : (L : Int) ≤ 4000 := by omega
  have HT : Hid (Tpe w q tv 0 zs) := h
  clear h
  have hmk := fun w => run_makeMap (P := Try.prog) 55 w
  go_enter Try.func10, Try.ntmps10
  go_wp2
  go_ret2
  have h := HT.out
  have k1 : Chg no w (w.alloc (.map #[] 0)) := (Chg.refl no w).alloc _
  obtain ⟨wm, hwm⟩ : ∃ wm, w.alloc (.map #[] 0) = wm := ⟨_, rfl⟩
  have hsz : wm.heap.size = w.heap.size + 1 := by rw [← hwm]; simp
  have tab : Tab Try.prog 40 wm w.heap.size [] := by rw [← hwm]; exact tab_made w
  rw [hwm] at k1 ⊢
  have k2 : Chg no wm (wm.alloc (.cells #[.pointer (some ⟨q, 0, none⟩), .int .i64 L, .map (some w.heap.size), .slice none 0 0] 57)) := (Chg.refl no wm).alloc _
  have hql := lt_of_block h.blk
  have hrl : ∀ k, tv.ownBlock = some k → k < w.heap.size := fun k hk => (h.row.lt k hk).2
  refine ⟨wm.heap.size, by simp [hsz], ⟨w.heap.size, tv, .slice none 0 0, [], fun k => tv.ownBlock = some k, ⟨?_, ?_, ?_, rfl, ?_, World.ownsRow_nil _ _ _ _, fun _ hk => hk, ?_, h.off, ?_, ?_, ?_, fun k hk => .inr (.inl hk), ?_, .inl rfl, ?_, ?_⟩⟩, k1.then k2⟩
  · exact heap_alloc_new wm _
  · have := (h.chg k1 id (fun _ _ h => h)).chg k2 id (fun _ _ h => h)
    simpa [OS.fresh] using this
  · exact tab.chg k2 id
  · intro i x hx
    simp at hx
  · intro e
    have := hrl _ e
    omega
  · intro e
    have := hrl _ e
    omega
  · intro k hk
    simp [Value.ownBlock] at hk
  · omega
  · exact .inr (.inr ⟨by omega, by simp⟩)
  · exact .inr (.inr ⟨by omega, by simp; omega⟩)
  · intro k hk
    have sz : (wm.alloc (.cells #[.pointer (some ⟨q, 0, none⟩), .int .i64 L, .map (some w.heap.size), .slice none 0 0] 57)).heap.size = wm.heap.size + 1 := by simp
    rcases hk with hk | hk | hk
    · omega
    · have := hrl k hk
      omega
    · exact hk.2

theorem rnew_ok {J : Nat → Prop} {w : World} {q : Nat} {tv : Value} {zs : List Int} (h : Rpe J w q tv 0 zs) (hJ : ∀ k, J k → k < q) (L : Nat) (h1 : 1 ≤ L) (h2 : L ≤ 4000) : Calls Try.prog 12 #[.pointer (some ⟨q, 0, none⟩), .int .i64 L] w fun e w' => ∃ p, e = .returned (.tuple #[.pointer (some ⟨p, 0, none⟩), .int .i64 0]) ∧
    Rorc J p q (OS.fresh zs L) w' (fun k => k = q ∨ (w.heap.size ≤ k ∧ k < w'.heap.size)) ∧ Chg no w w' := by
  have i1 : (1 : Int) ≤ L := by omega
  have i2 : (L : Int) ≤ 4000 := by omega
  have HT : Hid (Rpe J w q tv 0 zs) := h
  clear h
  have hmk := fun w => run_makeMap (P := Try.prog) 62 w
  go_enter Try.func12, Try.ntmps12
  go_wp2
  go_ret2
  have h := HT.out
  have k1 : Chg no w (w.alloc (.map #[] 0)) := (Chg.refl no w).alloc _
  obtain ⟨wm, hwm⟩ : ∃ wm, w.alloc (.map #[] 0) = wm := ⟨_, rfl⟩
  have hsz : wm.heap.size = w.heap.size + 1 := by rw [← hwm]; simp
  have tab : Tab Try.prog 46 wm w.heap.size [] := by rw [← hwm]; exact tab_made w
  rw [hwm] at k1 ⊢
  have k2 : Chg no wm (wm.alloc (.cells #[.pointer (some ⟨q, 0, none⟩), .int .i64 L, .slice none 0 0, .map (some w.heap.size), .slice none 0 0] 64)) := (Chg.refl no wm).alloc _
  have hql := lt_of_block h.blk
  have sz : (wm.alloc (.cells #[.pointer (some ⟨q, 0, none⟩), .int .i64 L, .slice none 0 0, .map (some w.heap.size), .slice none 0 0] 64)).heap.size = wm.heap.size + 1 := by simp
  refine ⟨wm.heap.size, by simp [hsz], ⟨w.heap.size, tv, .slice none 0 0, .slice none 0 0, [], no, ⟨?_, ?_, ?_, World.ownsRow_nil _ _ _ _, ?_, World.ownsRow_nil _ _ _ _, id, id, id, ?_, ?_, by omega, fun k hk => hk.elim, ?_, .inl rfl, ?_, ?_, ?_, ?_⟩⟩, k1.then k2⟩
  · exact heap_alloc_new wm _
  · have := (h.chg k1 id (fun _ _ h => h)).chg k2 id (fun _ _ h => h)
    simpa [OS.fresh] using this
  · exact tab.chg k2 id
  · intro i x hx
    simp at hx
  · intro k hk
    simp [Value.ownBlock] at hk
  · intro k hk
    simp [Value.ownBlock] at hk
  · exact .inr ⟨by omega, by omega⟩
  · exact .inr ⟨by omega, by omega⟩
  · intro k hk e
    have := hJ k hk
    rcases e with e | e <;> omega
  · intro k hk
    have := hJ k hk
    omega
  · intro k hk
    rcases hk with hk | hk
    · omega
    · exact hk.2

end Go.Proofs.Ytmchjnmmeankgaa.st
