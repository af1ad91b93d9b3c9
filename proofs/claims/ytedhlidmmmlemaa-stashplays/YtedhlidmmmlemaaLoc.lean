/- The program's stash within a law, and a box that stays. -/
import Derived.Test.YtedhlidmmmlemaaFir
namespace Go.Proofs.Ytedhlidmmmlemaa.st
open Go.ChangeShapes Go.WideShapes Go.ChangeAt Go.RowKit Go.Proofs.Ytedhlidmmmlemaa.hp
set_option linter.unusedVariables false
set_option linter.unusedSimpArgs false

/-- The stash, made behind w. -/
def Lcs (w : World) (p : Nat) (L : List Bk) (m : Nat) (wr : World) : Prop := ∃ F, St 64 36 F p L m wr ∧ (∀ b, F b → w.heap.size ≤ b) ∧ Chg no w wr

/-- .. and a box that stays. -/
def LcsB (w : World) (p : Nat) (L : List Bk) (m : Nat) (Q : Nat) (o : Obj) (wr : World) : Prop := ∃ F, St 64 36 F p L m wr ∧ (∀ b, F b → w.heap.size ≤ b) ∧ Chg no w wr ∧ ¬ F Q ∧ w.heap.size ≤ Q ∧ wr.heap[Q]? = some o

section
variable {w wr w' : World} {p m Q : Nat} {L : List Bk} {o : Obj}

theorem Lcs.same (h : Lcs w p L m wr) (k : Chg no wr w') : Lcs w p L m w' := by
  obtain ⟨F, h1, h2, h3⟩ := h
  exact ⟨F, h1.same k, h2, h3.then k⟩

theorem LcsB.same (h : LcsB w p L m Q o wr) (k : Chg no wr w') : LcsB w p L m Q o w' := by
  obtain ⟨F, h1, h2, h3, h4, h5, h6⟩ := h
  exact ⟨F, h1.same k, h2, h3.then k, h4, h5, k.heap h6 (fun h => h)⟩

theorem LcsB.drop (h : LcsB w p L m Q o wr) : Lcs w p L m wr := by
  obtain ⟨F, h1, h2, h3, h4, h5, h6⟩ := h
  exact ⟨F, h1, h2, h3⟩

theorem Lcs.box (h : Lcs w p L m wr) (xs : Array Value) (t : TypeId) : LcsB w p L m wr.heap.size (.cells xs t (0, 0)) (wr.alloc (.cells xs t)) := by
  obtain ⟨F, h1, h2, h3⟩ := h
  exact ⟨F, h1.same ((Chg.refl no wr).alloc _), h2, h3.alloc _, fun e => by have := h1.lt _ e; omega, h3.size, heap_alloc_new _ _⟩

theorem LcsB.chg (h : LcsB w p L m Q o wr) : Chg no w wr := by
  obtain ⟨F, h1, h2, h3, h4⟩ := h
  exact h3

theorem Lcs.chg (h : Lcs w p L m wr) : Chg no w wr := by
  obtain ⟨F, h1, h2, h3⟩ := h
  exact h3

theorem Lcs.ok (h : Lcs w p L m wr) : okL L ∧ L.length ≤ m ∧ m ≤ 64 := by
  obtain ⟨F, h1, h2, h3⟩ := h
  exact h1.ok

theorem LcsB.cells {i : Int} {v : Value} {t : TypeId} (h : LcsB w p L m Q (.cells #[.int .i64 i, v] t (0, 0)) wr) : wr.cell? ⟨Q, 0, none⟩ = some (.int .i64 i) ∧ wr.cell? ⟨Q, 1, none⟩ = some v ∧ Q < wr.heap.size := by
  obtain ⟨F, h1, h2, h3, h4, h5, h6⟩ := h
  exact ⟨(row_cell (xs := [_, _]) h6 0 _ rfl).1, (row_cell (xs := [_, _]) h6 1 _ rfl).1, lt_of_block h6⟩

theorem LcsB.has (h : LcsB w p L m Q o wr) (id : Int) : Calls Try.prog 18 #[pt p, .int .i64 id] wr fun e w' => e = .returned (.bool (hasL L id)) ∧ LcsB w p L m Q o w' := by
  have h0 := h
  obtain ⟨F, h1, _⟩ := h
  refine (has_any h1 id).mono ?_
  rintro e w' ⟨rfl, k⟩
  exact ⟨rfl, h0.same k⟩

theorem LcsB.len (h : LcsB w p L m Q o wr) : Calls Try.prog 19 #[pt p] wr fun e w' => e = .returned (.int .i64 (L.length : Nat)) ∧ w' = wr := by
  obtain ⟨F, h1, _⟩ := h
  exact len_any h1

theorem Lcs.len (h : Lcs w p L m wr) : Calls Try.prog 19 #[pt p] wr fun e w' => e = .returned (.int .i64 (L.length : Nat)) ∧ w' = wr := by
  obtain ⟨F, h1, _⟩ := h
  exact len_any h1

theorem Lcs.most (h : Lcs w p L m wr) : Calls Try.prog 20 #[pt p] wr fun e w' => e = .returned (.int .i64 (m : Nat)) ∧ w' = wr := by
  obtain ⟨F, h1, _⟩ := h
  exact most_any h1

theorem Lcs.ids (h : Lcs w p L m wr) : Calls Try.prog 22 #[pt p] wr fun e w' => ∃ a c, e = .returned (.slice a L.length c) ∧ Lies (Old w') w' (.slice a L.length c) ((L.map (·.1)).map (Value.int .i64)) ∧ Lcs w p L m w' := by
  have h0 := h
  obtain ⟨F, h1, _⟩ := h
  refine (ids_any h1).mono ?_
  rintro e w' ⟨a, c, rfl, l, k⟩
  exact ⟨a, c, rfl, Lies.old l, h0.same k⟩

/-- Put; what else is new stays. -/
theorem LcsB.put (h : LcsB w p L m Q o wr) (id : Int) (a : Option Addr) (l c : Nat) (zs : List Int) (hv : Lies (Old w) w (.slice a l c) (zs.map (Value.int .u8))) (hb : Bytes zs) (hl : zs.length = l) (W : World) (k : Chg no wr W) :
    Calls Try.prog 12 #[pt p, bv id a l c] W fun e w' => e = .returned (.bool (decide (okB (id, zs)))) ∧ LcsB w p (putA L (id, zs)) (mostA L m (id, zs)) Q o w' ∧ ∀ g o', wr.heap.size ≤ g → W.heap[g]? = some o' → w'.heap[g]? = some o' := by
  obtain ⟨F, h1, h2, h3, h4, h5, h6⟩ := h.same k
  obtain ⟨F0, g1, _⟩ := h
  have hlt := lt_of_block h6
  obtain ⟨F, h1, h2, h3, h4, h5, h6, h7⟩ : ∃ F, St 64 36 F p L m W ∧ (∀ b, F b → w.heap.size ≤ b) ∧ Chg no w W ∧ ¬ F Q ∧ w.heap.size ≤ Q ∧ W.heap[Q]? = some o ∧ ∀ b, F b → b < wr.heap.size := by
    obtain ⟨F1, q1, q2, q3, q4, q5, q6⟩ := (⟨F, h1, h2, h3, h4, h5, h6⟩ : LcsB w p L m Q o W)
    rename_i g2
    exact ⟨F0, g1.same k, g2.1, h3, g2.2.2.1, h5, h6, g1.lt⟩
  refine (put_any h1 id a l c zs (Lies.later hv h3) hb hl).mono ?_
  rintro e w' ⟨rfl, S, kk⟩
  refine ⟨rfl, ⟨_, S, fun b hb => ?_, h3.trans kk (fun b hb => .inr (h2 b hb)), ?_, h5, kk.heap h6 h4⟩, fun g o' hg hgo => kk.heap hgo (fun e => by have := h7 g e; omega)⟩
  · rcases hb with hb | hb
    · exact h2 b hb
    · have := hb.1
      have := h3.size
      omega
  · rintro (e | e)
    · exact h4 e
    · omega

theorem LcsB.take (h : LcsB w p L m Q o wr) (id : Int) : Calls Try.prog 13 #[pt p, .int .i64 id] wr fun e w' => ∃ a c, e = .returned (.tuple #[bv (getL L id).1 a (getL L id).2.length c, .bool (hasL L id)]) ∧ LcsB w p (delL L id) m Q o w' := by
  obtain ⟨F, h1, h2, h3, h4, h5, h6⟩ := h
  refine (take_any h1 id).mono ?_
  rintro e w' ⟨a, c, rfl, _, S, k⟩
  exact ⟨a, c, rfl, F, S, h2, h3.trans k (fun b hb => .inr (h2 b hb)), h4, h5, k.heap h6 h4⟩
end

end Go.Proofs.Ytedhlidmmmlemaa.st
