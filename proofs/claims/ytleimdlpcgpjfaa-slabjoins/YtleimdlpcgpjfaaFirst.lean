/- Num and Raw of lists that were just made; the contract of first: what the chapter's examples fix. -/
import Derived.Test.YtleimdlpcgpjfaaReaE
namespace Go.Proofs.Ytleimdlpcgpjfaa.st
open Go.ChangeShapes Go.WideShapes Go.ChangeAt Go.RowKit Go.Proofs.Ytleimdlpcgpjfaa.hp Go.Proofs.Ytleimdlpcgpjfaa.dg
set_option linter.unusedVariables false

theorem wri_new (w : World) : Wri (w.alloc (.cells #[.slice none 0 0, .bool false] 28)) w.heap.size (fun k => k = w.heap.size) [] false :=
  ⟨.slice none 0 0, heap_alloc_new _ _, World.ownsRow_nil _ _ _ _, fun k hk => by simp [Value.ownBlock] at hk, rfl, fun k hk => by subst hk; simp⟩

theorem WAt.back {w0 w1 w' : World} {p : Nat} {F : Nat → Prop} {s : WS} (h : WAt w1 p F s w') (k : Chg no w0 w1) (hl : ∀ b, F b → b < w0.heap.size) : WAt w0 p F s w' := by
  have s1 := k.size
  have s2 := h.2.size
  refine ⟨h.1.wide ?_ ?_, (k.of_no F).then h.2⟩
  · intro b hb
    rcases hb with hb | hb
    · exact .inl hb
    · exact .inr ⟨by omega, hb.2⟩
  · intro b hb
    rcases hb with hb | hb
    · have := hl b hb
      omega
    · exact hb.2

theorem num_at {w0 w1 : World} {p g : Nat} {F : Nat → Prop} {s : WS} (h : Wri w0 p F s.1 s.2) (hl : s.1.length ≤ 90000000) (k : Chg no w0 w1) (a : Int) (ns : List Int) (hn : ns.length ≤ 1000) (hg : w1.heap[g]? = some (.cells (ns.map (Value.int .i64)).toArray 3 (0, 0))) (hgn : w0.heap.size ≤ g) :
    Calls Try.prog 12 #[.pointer (some ⟨p, 0, none⟩), .int .i64 a, .slice (some ⟨g, 0, none⟩) ns.length ns.length] w1 fun e w' => e = .returned (.pointer (some ⟨p, 0, none⟩)) ∧ WAt w0 p F (nums a s ns) w' := by
  have hL := lies_block hg ns.length
  simp only [List.length_map] at hL
  refine (num_any (h.same k) hl a _ ns hL (fun b hb => ⟨fun e => by have := h.lt b e; omega, by subst hb; exact lt_of_block hg⟩) hn).mono ?_
  rintro e w' ⟨rfl, hW⟩
  exact ⟨rfl, hW.back k h.lt⟩

theorem num_new {w : World} {p : Nat} {F : Nat → Prop} {s : WS} (h : Wri w p F s.1 s.2) (hl : s.1.length ≤ 90000000) (a : Int) (ns : List Int) (hn : ns.length ≤ 1000) :
    Calls Try.prog 12 #[.pointer (some ⟨p, 0, none⟩), .int .i64 a, .slice (some ⟨w.heap.size, 0, none⟩) ns.length ns.length] (w.alloc (.cells (ns.map (Value.int .i64)).toArray 3)) fun e w' => e = .returned (.pointer (some ⟨p, 0, none⟩)) ∧ WAt w p F (nums a s ns) w' :=
  num_at h hl ((Chg.refl no w).alloc _) a ns hn (heap_alloc_new _ _) (Nat.le_refl _)

theorem raw_at {w0 w1 : World} {p g : Nat} {F J : Nat → Prop} {s : WS} (h : Wri w0 p F s.1 s.2) (k : Chg no w0 w1) (P : List Part) (hP : ∀ x ∈ P, Lies J w0 x.1 (x.2.map (Value.int .u8))) (hJ : ∀ k, J k → ¬ F k ∧ k < w0.heap.size) (hn : P.length ≤ 1000) (hl : s.1.length + ((P.map (·.2)).flatten).length ≤ 90000000) (hg : w1.heap[g]? = some (.cells (P.map (·.1)).toArray 26 (0, 0))) (hgn : w0.heap.size ≤ g) :
    Calls Try.prog 11 #[.pointer (some ⟨p, 0, none⟩), .slice (some ⟨g, 0, none⟩) P.length P.length] w1 fun e w' => e = .returned (.pointer (some ⟨p, 0, none⟩)) ∧ WAt w0 p F (raws s (P.map (·.2))) w' := by
  have hL := (lies_block hg P.length).mono (K := fun b => J b ∨ b = g) (fun b hb => .inr hb)
  simp only [List.length_map] at hL
  have z := k.size
  refine (raw_any (h.same k) _ P hL (fun x hx => ((hP x hx).chg k (fun _ _ h => h)).mono (fun b hb => .inl hb)) (fun b hb => ?_) hn hl).mono ?_
  · rcases hb with hb | hb
    · exact ⟨(hJ b hb).1, by have := (hJ b hb).2; omega⟩
    · subst hb
      exact ⟨fun e => by have := h.lt _ e; omega, lt_of_block hg⟩
  · rintro e w' ⟨rfl, hW⟩
    exact ⟨rfl, hW.back k h.lt⟩

theorem raw_new {w : World} {p : Nat} {F J : Nat → Prop} {s : WS} (h : Wri w p F s.1 s.2) (P : List Part) (hP : ∀ x ∈ P, Lies J w x.1 (x.2.map (Value.int .u8))) (hJ : ∀ k, J k → ¬ F k ∧ k < w.heap.size) (hn : P.length ≤ 1000) (hl : s.1.length + ((P.map (·.2)).flatten).length ≤ 90000000) :
    Calls Try.prog 11 #[.pointer (some ⟨p, 0, none⟩), .slice (some ⟨w.heap.size, 0, none⟩) P.length P.length] (w.alloc (.cells (P.map (·.1)).toArray 26)) fun e w' => e = .returned (.pointer (some ⟨p, 0, none⟩)) ∧ WAt w p F (raws s (P.map (·.2))) w' :=
  raw_at h ((Chg.refl no w).alloc _) P hP hJ hn hl (heap_alloc_new _ _) (Nat.le_refl _)

theorem block_lies {w : World} {g : Nat} {zs : List Int} (h : w.heap[g]? = some (.cells (zs.map (Value.int .u8)).toArray 5 (0, 0))) : Lies (fun k => k = g) w (.slice (some ⟨g, 0, none⟩) zs.length zs.length) (zs.map (Value.int .u8)) := by
  have := lies_block h zs.length
  simpa using this

set_option maxHeartbeats 2000000 in
theorem first_any (w : World) : Calls Try.prog 9 #[] w fun e w' => e = .returned (.bool true) ∧ Chg no w w' := by
  go_enter Try.func9, Try.ntmps9
  go_wp2_with fail
  have k1 : Chg no w (w.alloc (.cells #[.slice none 0 0, .bool false] 28)) := (Chg.refl no w).alloc _
  have s1 := wri_new w
  have z1 : w.heap.size + 1 = (w.alloc (.cells #[.slice none 0 0, .bool false] 28)).heap.size := by simp
  obtain ⟨w1, hw1⟩ : ∃ w1, w.alloc (.cells #[.slice none 0 0, .bool false] 28) = w1 := ⟨_, rfl⟩
  rw [hw1] at k1 s1 z1
  simp only [hw1, z1]
  clear hw1
  refine (num_new (s := ([], false)) s1 (by simp) 2 [5, -1] (by simp)).mono ?_
  rintro e w2 ⟨rfl, hW⟩
  have e2 : nums 2 ([], false) [5, -1] = ([0, 5, 255, 255], false) := by decide
  rw [e2] at hW
  have k2 : Chg no w w2 := k1.trans hW.2 (fun k hk => .inr (by omega))
  have HS := sealed_ok (n := 6) hW.1 (by omega) (by simp)
  clear k1 s1 hW
  go_wp2_with fail
  refine HS.mono ?_
  rintro e w3 ⟨rfl, g3, k3⟩
  have hlt3 := lt_of_block g3
  clear HS
  go_wp2_with fail
  have hN := newReader_any (w3.alloc (.cells #[.int .u8 0, .int .u8 5, .int .u8 255, .int .u8 255, .int .u8 0] 5)) _ [0, 5, 255, 255, 0] (lies_new [.int .u8 0, .int .u8 5, .int .u8 255, .int .u8 255, .int .u8 0] 5) (by unfold Bytes; simp) (by simp)
  refine hN.mono ?_
  rintro e w4 ⟨r, rfl, hR, k4⟩
  have hr : w.heap.size ≤ r := by
    have q1 := hR.fp.1
    have q2 := ((k2.then k3).alloc (.cells #[.int .u8 0, .int .u8 5, .int .u8 255, .int .u8 255, .int .u8 0] 5)).size
    omega
  have k5 : Chg no w w4 := ((k2.then k3).alloc _).then k4
  have g4 := k4.heap (((Chg.refl no w3).alloc _).heap g3 id) id
  have hlt4 := lt_of_block g4
  clear hN g3 k3 k4 k2
  go_wp2_with fail
  have k6 : Chg no w4 (w4.alloc (.cells #[.int .u8 0, .int .u8 5, .int .u8 255, .int .u8 255, .int .u8 0, .int .u8 0] 5)) := (Chg.refl no w4).alloc _
  refine (bytes_same (zs := [0, 5, 255, 255, 0, 0]) ((block_lies (zs := [0, 5, 255, 255, 0, 0]) g4).chg k6 (fun _ _ h => h)) (lies_new [.int .u8 0, .int .u8 5, .int .u8 255, .int .u8 255, .int .u8 0, .int .u8 0] 5)).mono ?_
  rintro e w5 ⟨rfl, rfl⟩
  have hR6 := hR.same k6
  have N1 := rnum_r (s := ([0, 5, 255, 255, 0], 0)) hR6 2
  have e3 : tval ([0, 5, 255, 255, 0], 0) 2 = 5 := by decide
  have e4 : tak ([0, 5, 255, 255, 0], 0) 2 (isw 2) = ([255, 255, 0], 0) := by decide
  rw [e3, e4] at N1
  clear hR hR6 g4
  go_wp2_with fail
  refine N1.mono ?_
  rintro e w7 ⟨rfl, hR7, c7⟩
  have N2 := rnum_r (s := ([255, 255, 0], 0)) hR7 2
  have e5 : tval ([255, 255, 0], 0) 2 = -1 := by decide
  have e6 : tak ([255, 255, 0], 0) 2 (isw 2) = ([0], 0) := by decide
  rw [e5, e6] at N2
  clear N1 hR7
  go_wp2_with fail
  refine N2.mono ?_
  rintro e w8 ⟨rfl, hR8, c8⟩
  have N3 := end_any (s := ([0], 0)) hR8 (by simp)
  have e7 : endS ([0], 0) = 0 := by decide
  rw [e7] at N3
  clear N2 hR8
  go_wp2_with fail
  refine N3.mono ?_
  rintro e w9 ⟨rfl, rfl⟩
  have N4 := cells_in w9 7 3 (by omega) (by omega) (by omega)
  have e8 : ncell 7 3 = 3 := by decide
  rw [e8] at N4
  clear N3
  go_wp2_with fail
  refine N4.mono ?_
  rintro e wa ⟨rfl, rfl⟩
  clear N4
  go_wp2
  go_ret
  exact ⟨rfl, ((k5.then k6).trans c7 (fun k hk => .inr (by omega))).trans c8 (fun k hk => .inr (by omega))⟩

end Go.Proofs.Ytleimdlpcgpjfaa.st
