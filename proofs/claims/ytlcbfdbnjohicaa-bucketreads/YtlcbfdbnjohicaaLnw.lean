/- Num and Raw of lists that were just made; the contract of first: what the chapter's examples fix. -/
import Derived.Test.YtlcbfdbnjohicaaReaE
namespace Go.Proofs.Ytlcbfdbnjohicaa.st
open Go.ChangeShapes Go.WideShapes Go.ChangeAt Go.RowKit Go.Proofs.Ytlcbfdbnjohicaa.hp Go.Proofs.Ytlcbfdbnjohicaa.dg
set_option linter.unusedVariables false

theorem wri_new (w : World) : Wri (w.alloc (.cells #[.slice none 0 0, .bool false] 50)) w.heap.size (fun k => k = w.heap.size) [] false :=
  ⟨.slice none 0 0, heap_alloc_new _ _, World.ownsRow_nil _ _ _ _, fun k hk => by simp [Value.ownBlock] at hk, rfl, fun k hk => by subst hk; simp⟩

theorem WAt.back {w0 w1 w' : World} {p : Nat} {F : Nat → Prop} {s : WS} (h : WAt w1 p F s w') (k : Chg no w0 w1) (hl : ∀ b, F b → b < w0.heap.size) : WAt w0 p F s w' := by
  have s1 := k.size
  have s2 := h.2.size
  refine ⟨h.1.wide ?_ ?_, (k.of_no F).then h.2⟩
  · intro b hb
    rcases hb with hb | hb
    · exact .inl hb
    · exact .inr ⟨by omega, hb.2⟩
  · intro b hb
    rcases hb with hb | hb
    · have := hl b hb
      omega
    · exact hb.2

theorem num_at {w0 w1 : World} {p g : Nat} {F : Nat → Prop} {s : WS} (h : Wri w0 p F s.1 s.2) (hl : s.1.length ≤ 90000000) (k : Chg no w0 w1) (a : Int) (ns : List Int) (hn : ns.length ≤ 1000) (hg : w1.heap[g]? = some (.cells (ns.map (Value.int .i64)).toArray 3 (0, 0))) (hgn : w0.heap.size ≤ g) :
    Calls Try.prog 23 #[.pointer (some ⟨p, 0, none⟩), .int .i64 a, .slice (some ⟨g, 0, none⟩) ns.length ns.length] w1 fun e w' => e = .returned (.pointer (some ⟨p, 0, none⟩)) ∧ WAt w0 p F (nums a s ns) w' := by
  have hL := lies_block hg ns.length
  simp only [List.length_map] at hL
  refine (num_any (h.same k) hl a _ ns hL (fun b hb => ⟨fun e => by have := h.lt b e; omega, by subst hb; exact lt_of_block hg⟩) hn).mono ?_
  rintro e w' ⟨rfl, hW⟩
  exact ⟨rfl, hW.back k h.lt⟩

theorem num_new {w : World} {p : Nat} {F : Nat → Prop} {s : WS} (h : Wri w p F s.1 s.2) (hl : s.1.length ≤ 90000000) (a : Int) (ns : List Int) (hn : ns.length ≤ 1000) :
    Calls Try.prog 23 #[.pointer (some ⟨p, 0, none⟩), .int .i64 a, .slice (some ⟨w.heap.size, 0, none⟩) ns.length ns.length] (w.alloc (.cells (ns.map (Value.int .i64)).toArray 3)) fun e w' => e = .returned (.pointer (some ⟨p, 0, none⟩)) ∧ WAt w p F (nums a s ns) w' :=
  num_at h hl ((Chg.refl no w).alloc _) a ns hn (heap_alloc_new _ _) (Nat.le_refl _)

theorem raw_at {w0 w1 : World} {p g : Nat} {F J : Nat → Prop} {s : WS} (h : Wri w0 p F s.1 s.2) (k : Chg no w0 w1) (P : List Part) (hP : ∀ x ∈ P, Lies J w0 x.1 (x.2.map (Value.int .u8))) (hJ : ∀ k, J k → ¬ F k ∧ k < w0.heap.size) (hn : P.length ≤ 1000) (hl : s.1.length + ((P.map (·.2)).flatten).length ≤ 90000000) (hg : w1.heap[g]? = some (.cells (P.map (·.1)).toArray 25 (0, 0))) (hgn : w0.heap.size ≤ g) :
    Calls Try.prog 24 #[.pointer (some ⟨p, 0, none⟩), .slice (some ⟨g, 0, none⟩) P.length P.length] w1 fun e w' => e = .returned (.pointer (some ⟨p, 0, none⟩)) ∧ WAt w0 p F (raws s (P.map (·.2))) w' := by
  have hL := (lies_block hg P.length).mono (K := fun b => J b ∨ b = g) (fun b hb => .inr hb)
  simp only [List.length_map] at hL
  have z := k.size
  refine (raw_any (h.same k) _ P hL (fun x hx => ((hP x hx).chg k (fun _ _ h => h)).mono (fun b hb => .inl hb)) (fun b hb => ?_) hn hl).mono ?_
  · rcases hb with hb | hb
    · exact ⟨(hJ b hb).1, by have := (hJ b hb).2; omega⟩
    · subst hb
      exact ⟨fun e => by have := h.lt _ e; omega, lt_of_block hg⟩
  · rintro e w' ⟨rfl, hW⟩
    exact ⟨rfl, hW.back k h.lt⟩

theorem raw_new {w : World} {p : Nat} {F J : Nat → Prop} {s : WS} (h : Wri w p F s.1 s.2) (P : List Part) (hP : ∀ x ∈ P, Lies J w x.1 (x.2.map (Value.int .u8))) (hJ : ∀ k, J k → ¬ F k ∧ k < w.heap.size) (hn : P.length ≤ 1000) (hl : s.1.length + ((P.map (·.2)).flatten).length ≤ 90000000) :
    Calls Try.prog 24 #[.pointer (some ⟨p, 0, none⟩), .slice (some ⟨w.heap.size, 0, none⟩) P.length P.length] (w.alloc (.cells (P.map (·.1)).toArray 25)) fun e w' => e = .returned (.pointer (some ⟨p, 0, none⟩)) ∧ WAt w p F (raws s (P.map (·.2))) w' :=
  raw_at h ((Chg.refl no w).alloc _) P hP hJ hn hl (heap_alloc_new _ _) (Nat.le_refl _)

theorem block_lies {w : World} {g : Nat} {zs : List Int} (h : w.heap[g]? = some (.cells (zs.map (Value.int .u8)).toArray 5 (0, 0))) : Lies (fun k => k = g) w (.slice (some ⟨g, 0, none⟩) zs.length zs.length) (zs.map (Value.int .u8)) := by
  have := lies_block h zs.length
  simpa using this

end Go.Proofs.Ytlcbfdbnjohicaa.st
