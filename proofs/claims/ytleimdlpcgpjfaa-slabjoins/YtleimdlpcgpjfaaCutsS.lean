/- What SlabCuts asks of pieces, as plain facts. -/
import Derived.Test.YtleimdlpcgpjfaaRcut
namespace Go.Proofs.Ytleimdlpcgpjfaa.st
open Go.ChangeShapes Go.WideShapes Go.ChangeAt Go.RowKit Go.Proofs.Ytleimdlpcgpjfaa.hp Go.Proofs.Ytleimdlpcgpjfaa.dg
set_option linter.unusedVariables false

/-- How many cells, of whatever numbers. -/
def cellsI (a b : Int) : Int := if a < 1 ∨ b < 1 then 0 else ncell a.toNat b.toNat

theorem cells_any (w : World) (a b : Int) (h : a ≤ 9223372036854775807) : Calls Try.prog 26 #[.int .i64 a, .int .i64 b] w fun e w' => e = .returned (.int .i64 (cellsI a b)) ∧ w' = w := by
  unfold cellsI
  by_cases hh : a < 1 ∨ b < 1
  · rw [if_pos hh]
    exact cells_out w a b hh
  · rw [if_neg hh]
    obtain ⟨x, rfl⟩ := Int.eq_ofNat_of_zero_le (show 0 ≤ a by omega)
    obtain ⟨y, rfl⟩ := Int.eq_ofNat_of_zero_le (show 0 ≤ b by omega)
    exact cells_in w x y (by omega) (by omega) h

theorem rcells_any (w : World) (a b : Int) (h : a ≤ 9223372036854775807) : Calls Try.prog 27 #[.int .i64 a, .int .i64 b] w fun e w' => e = .returned (.int .i64 (cellsI a b)) ∧ w' = w := by
  unfold cellsI
  by_cases hh : a < 1 ∨ b < 1
  · rw [if_pos hh]
    exact rcells_out w a b hh
  · rw [if_neg hh]
    obtain ⟨x, rfl⟩ := Int.eq_ofNat_of_zero_le (show 0 ≤ a by omega)
    obtain ⟨y, rfl⟩ := Int.eq_ofNat_of_zero_le (show 0 ≤ b by omega)
    exact rcells_in w x y (by omega) (by omega) h

theorem cellsI_len (l : Nat) (s : Int) : cellsI l s = (ncell l s.toNat : Int) := by
  unfold cellsI
  by_cases hh : (l : Int) < 1 ∨ s < 1
  · rw [if_pos hh, ncell_zero l s (by omega)]
    rfl
  · rw [if_neg hh]
    simp

/-- The first j pieces, one behind the other. -/
def flat (zs : List Int) (s j : Nat) : List Int := ((List.range j).map (piece zs s)).flatten

theorem flat_add (zs : List Int) (s j : Nat) : flat zs s (j + 1) = flat zs s j ++ piece zs s j := by
  unfold flat
  rw [List.range_succ, List.map_append, List.flatten_append]
  simp

theorem flat_length (zs : List Int) (s j : Nat) : (flat zs s j).length = j * s := by
  induction j with
  | zero => simp [flat]
  | succ j ih => rw [flat_add, List.length_append, ih, piece_length, Nat.add_mul, Nat.one_mul]

theorem flat_is (zs : List Int) (s j : Nat) (h : j ≤ ncell zs.length s) : flat zs s j = zs.take (j * s) ++ List.replicate (j * s - zs.length) 0 := by
  induction j with
  | zero => simp [flat]
  | succ j ih =>
    have hj := (ncell_lt zs.length s j (by omega)).1
    rw [flat_add, ih (by omega), show j * s - zs.length = 0 by omega, Nat.add_mul, Nat.one_mul]
    simp only [List.replicate_zero, List.append_nil]
    unfold piece fill
    rw [List.take_add, List.append_assoc]
    congr 2
    simp only [List.length_take, List.length_drop]
    congr 1
    omega

theorem flat_back (zs : List Int) (s : Nat) (h : 1 ≤ s) : (flat zs s (ncell zs.length s)).take zs.length = zs := by
  have hg := ncell_ge zs.length s h
  rw [flat_is zs s _ (Nat.le_refl _), List.take_of_length_le (l := zs) hg, List.take_append_of_le_length (Nat.le_refl _), List.take_length]

/-- Within the loop of SlabCuts: the pieces so far, one behind the other, in memory that is newer than w3. -/
def AllAt (w3 : World) (bs : List Int) (v : Value) (wr : World) : Prop := Row wr (fun k => w3.heap.size ≤ k ∧ k < wr.heap.size) v bs ∧ Chg no w3 wr

theorem AllAt.grow {w3 wr wa w5 : World} {bs cs : List Int} {v v' : Value} (h : AllAt w3 bs v wr) (k : Chg no wr wa) (gr : Grew 5 wa w5 v v' bs.length (bs.map (Value.int .u8)) (cs.map (Value.int .u8))) : AllAt w3 (bs ++ cs) v' w5 := by
  have hC : Chg (fun b => v.ownBlock = some b) wa w5 := (Chg.refl _ wa).grown gr.grown (fun b hb => .inl hb)
  have z1 := h.2.size
  have z2 := k.size
  have z3 := hC.size
  refine ⟨⟨?_, ?_, fun b hb => hb.2⟩, (h.2.then k).trans hC (fun b hb => .inr (h.1.vg b hb).1)⟩
  · have := gr.own
    simpa using this
  · intro b hb
    have hlt := (gr.own.lt b hb).2
    rcases gr.place b hb with e | e
    · exact ⟨(h.1.vg b e).1, hlt⟩
    · exact ⟨by omega, hlt⟩

theorem AllAt.later {w3 wr wa : World} {bs : List Int} {v : Value} (h : AllAt w3 bs v wr) (k : Chg no wr wa) : AllAt w3 bs v wa :=
  ⟨⟨k.owns h.1.own (fun _ _ h => h), fun b hb => ⟨(h.1.vg b hb).1, by have := (h.1.vg b hb).2; have := k.size; omega⟩, fun b hb => hb.2⟩, h.2.then k⟩

theorem AllAt.start (w3 : World) : AllAt w3 [] (.slice none 0 0) w3 :=
  ⟨⟨World.ownsRow_nil _ _ _ _, fun k hk => by simp [Value.ownBlock] at hk, fun b hb => hb.2⟩, Chg.refl _ _⟩

theorem owns_cap {w : World} {b : Nat} {e : TypeId} {size n : Nat} {a : Option Addr} {l c : Nat} {xs : List Value} (h : w.ownsRow b e size (.slice a l c) n xs) : n ≤ c ∧ c ≤ 9223372036854775807 := by
  rcases h.2 with ⟨hh, rfl⟩ | ⟨g, cap, cur, hv, _, hg, hc, hm, _, ht⟩
  · cases hh
    omega
  · cases hv
    unfold maxLen at hm
    omega

end Go.Proofs.Ytleimdlpcgpjfaa.st
